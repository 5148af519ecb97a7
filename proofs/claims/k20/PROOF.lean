import PyProof.Rows.All
import Wide.All
import OpenK.AllK
import Wide.FinOn
import HandS.ForMost
import HandS.Defaults
import HandS.Property
import HandS.OwnEq
import HandS.FStr
import HandS.IsInst
import HandS.TupAny
import HandS.Evl
import HandS.Star
import HandS.SlotsOwn
import KE.KCallOwn
import HandS.Conv
import HandS.ClsMeth
import HandS.CallLocal
import HandS.Text
import HandS.StrMore
import HandS.Style
import PyProof.ReprRoads
import HandS.SortRule
import HandS.Iter
import KE.LtData
import KE.DataFind
import HandS.Deep
import HandS.RaiseMore
import HandS.SortInts
import HandS.NoneIn
import HandS.RevRange
import KE.SortData
import HandS.Ends
import HandS.Zip
import HandS.Dict
import KE.KStar
import KE.KParD
import HandS.Words
import HandS.TryOnly
import HandS.ExcInit
import HandS.ExcOwn
import HandS.ExcIs
import HandS.ExcField
import HandS.WordsExc
import KE.KExcIs
import KE.GoesRaise
import KE.KxMul
import KE.GoesMore
import KE.GoesZip
import KE.KTurns
import HandS.FStrTup
import PySem.Challenge.RW_dimdays_k20_days_that_frames_let
set_option Elab.async false
set_option linter.all false
set_option maxRecDepth 100000
set_option maxHeartbeats 2000000
namespace DD
open PySem PySem.Spec PyProof.Rows L2
section
variable {X : Cx} {CX : CXT} {k : Nat} {f C p g : Addr} {sp : Sp} {E : XK} {x m : Str} {pp pos apos : Pos} {e o : Expr} {es : List Expr} {ta : TE} {t : TA}
def tCallR (sp : Sp) (E : XK) (t : TA) : TE := fun σ H Q => t σ H fun vs H1 => sp vs H1 Q E
theorem wp_fnR {pins : List (Addr × Obj)} {σ : L2.St} {H : Hp} {s : Shared} {Q : VK} {us : List Value} {vs : List V} (F : FnR X.prog X.w X.K X.mg X.base CX k f sp) (hr : Room k X.A) (hx : Passes CX X E) (I : Inv X pins σ H s) (r : Vals vs us) (h : sp vs H Q E) :
    wpAny (model X.prog X.w) X.A (call (.ref f) us) (EP X pins σ Q) X.xe s := wpAny_call (run_fnR F hr hx I r h)
theorem pe_callR (F : FnR X.prog X.w X.K X.mg X.base CX k f sp) (hr : Room k X.A) (hg : Gl X x) (hm : X.mg x = some (.ref f)) (hk : PySem.W.keepIn X.K (.ref f) = true) (hx : Passes CX X E)
    (ha : PA X (e :: es) t) (hdb : (x == ("__debug__" : Str)) = false := by decide) (he : starEach (e :: es) X.env = (false, eval e X.env) :: starEach es X.env := by rfl) (hpl : (backTo pos (starEach es X.env)).any (·.1) = false := by rfl) :
    PE X (.Call (.Name x pp) (e :: es) [] pos) (tCallR sp E t) := by
  refine ⟨fun pins s σ H Q I h => ?_⟩
  refine wpAny_Call_Name_kw (ld_glob I hg hm ?_ hdb)
  refine PySem.W.callWith_K (h₀ := X.base) I.ok.mod.kin hk (thn (ha.run pos pins s σ H _ I h) fun us s1 ⟨vs, H1, I1, r, q⟩ => ⟨I1.kIn, ?_⟩) he hpl
  exact wp_fnR F hr hx I1 r q
/-- o.m(..) of an instance of the class at C -/
def tMethR (C : Addr) (m : Str) (sp : Sp) (E : XK) (ta : TE) (t : TA) : TE := fun σ H Q => ta σ H fun x H1 => ∃ a dx fs, x = .ref a ∧ H1 a = some (.ins C dx fs) ∧ fs.lookup m = none ∧
  t σ H1 fun vs H2 => sp (x :: vs) H2 Q E
theorem pe_methR {pl : Sem Bool} (he : PE X o ta) (c : Cls X.K C) (hm : Meth X.K C m f) (F : FnR X.prog X.w X.K X.mg X.base CX k f sp) (hr : Room k X.A) (hx : Passes CX X E) (ha : PA X (e :: es) t)
    (hst : starEach (e :: es) X.env = (false, eval e X.env) :: starEach es X.env := by rfl) (hpl : (backTo pos (starEach es X.env)).any (·.1) = false := by rfl)
    (ht : eval (.Call (.Attribute o m apos) (e :: es) [] pos) X.env = (do
      let ov ← eval o X.env
      standAt apos.atName
      let (f, first) ← holding [ov] (getMethod ov m pl)
      callWith pos f first (backTo pos (starEach (e :: es) X.env)) (backToKw pos (keywordEach [] X.env))) := by rfl) :
    PE X (.Call (.Attribute o m apos) (e :: es) [] pos) (tMethR C m sp E ta t) := by
  refine ⟨fun pins s σ H Q I h => ?_⟩
  refine PySem.W.methodCall_KW (pl := pl) (thn (he.run pins s σ H _ I h) fun u s1 ⟨x, H1, I1, rx, a, dx, fs, ex, ea, l, q⟩ => ?_) ht
  subst ex
  obtain rfl : u = Value.ref a := rx
  refine getmeth_ok I1 ea c hm l ?_
  refine PySem.W.callWith_K (first := [.ref a]) (h₀ := X.base) I.ok.mod.kin hm.kp (thn (ha.run pos pins s1 σ H1 _ I1 q) fun us s2 ⟨vs, H2, I2, r, q2⟩ => ⟨I2.kIn, ?_⟩) hst hpl
  exact wp_fnR (us := .ref a :: us) (vs := .ref a :: vs) F hr hx I2 (.cons rfl r) q2
/-- e.f, a property -/
def tPropR (C : Addr) (sp : Sp) (E : XK) (ta : TE) : TE := fun σ H Q => ta σ H fun x H1 => ∃ a dx fs, x = .ref a ∧ H1 a = some (.ins C dx fs) ∧ sp [.ref a] H1 Q E
theorem pe_propR (he : PE X e ta) (c : Cls X.K C) (hp : PropOf X.K C m p g) (F : FnR X.prog X.w X.K X.mg X.base CX k g sp) (hr : Room (k + 1) X.A) (hx : Passes CX X.nox E)
    (hab : attributeBase e m X.env (eval e X.env) = eval e X.env := by rfl) : PE X (.Attribute e m pos) (tPropR C sp E ta) := by
  refine ⟨fun pins s σ H Q I h => ?_⟩
  refine attr_of hab (thn (he.run pins s σ H _ I h) fun u s1 ⟨x, H1, I1, rx, a, dx, fs, ex, ea, q⟩ => ?_)
  subst ex
  obtain rfl : u = Value.ref a := rx
  obtain ⟨mA, O, _, _, _, _⟩ := ins_get I1.hok ea
  obtain ⟨od, J, _⟩ := O.look
  obtain ⟨rest, hrec⟩ := hp.rec_
  have I2 := I1.tok (s1.toks + 1)
  have hc : (PySem.W.clsIn X.K C).isSome = true := by
    obtain ⟨cd, hc, _⟩ := PySem.W.any_some c.hd
    rw [hc]
    rfl
  refine PySem.W.get_bind I1.kIn J (PySem.W.plainGet_of (c.get m)).1 (PySem.W.findObj_data hc hp.at_ hp.get hp.tak) (PySem.W.plainGet_of (c.get m)).2 (wpAny_call (PySem.W.prop_get (s := { s1 with toks := s1.toks + 1 }) I1.kIn hrec ?_))
  refine codeAny_mono (F X.A.in1 X.stack { s1 with toks := s1.toks + 1 } H1 [.ref a] [.ref a] Q E hr.in1 I2.env0.in1 (.cons rfl .nil) q) fun r s' hq => ?_
  cases r with
  | error er => exact False.elim (hx pins σ H1 { s1 with toks := s1.toks + 1 } er s' (I2.wish _) hq)
  | ok fl =>
    cases fl with
    | ret u =>
      obtain ⟨v, H', I3, rv, q3⟩ := I2.after hq
      show wpAny _ _ (handedOut u) _ _ _
      rw [PySem.W.handedOut_of (handed_of rv)]
      exact wpAny_pure ⟨v, H', I3, rv, q3⟩
    | next => exact False.elim hq
    | brk => exact False.elim hq
    | cont => exact False.elim hq
/-- a statement that is never reached -/
theorem ps_dead {st : Stmt} : PS X st (fun _ _ _ => False) := ⟨fun _ _ _ _ _ _ h => h.elim⟩
end
end DD
set_option Elab.async false
set_option linter.all false
set_option maxRecDepth 100000
set_option maxHeartbeats 2000000
namespace DD
open PySem PySem.Spec PyProof.Rows L2
theorem inK {X : Cx} {K : PySem.W.Frag} (h : X.K = K := by rfl) : OpR X (compareOp .In) (rIn K false) := h ▸ op_in_seq
theorem sw2 {x y : Str} {a b : Expr} {px py pt pv : Pos} {kt kv} {env : Env} (hk : (env.blockKind != .function) = false) (lx : env.scope.names.lookup x = some .local) (ly : env.scope.names.lookup y = some .local)
    (hl : (py.line == px.line) = true := by rfl) (hxy : ((y == x) = false) := by decide +kernel) (h1 : ([a, b].any fun | .Starred .. => true | _ => false) = false := by rfl) (h2 : [a, b].all (foldedForSure 8) = false := by rfl) (h3 : [a, b].all (constantsAlone 8) = false := by rfl) :
    swappedStores [.Tuple [.Name x px, .Name y py] kt pt] (.Tuple [a, b] kv pv) env = pure (some [x, y]) := by
  have kx : (env.kindOf x == some .local) = true := by rw [show env.kindOf x = some .local from lx]; rfl
  have ky : (env.kindOf y == some .local) = true := by rw [show env.kindOf y = some .local from ly]; rfl
  unfold swappedStores
  simp only [pure_bind, List.head?_cons, Option.map_some, Option.getD_some, Expr.pos]
  have e : (px.line == px.line) = true := by simp
  simp only [List.filterMap_cons, List.filterMap_nil, Expr.pos, kx, ky, hl, e, Bool.and_self, if_true, h1, h2, h3, hk, List.length_cons, List.length_nil]
  have ed : ([x, y] : List Str).eraseDups = [x, y] := by
    simp [List.eraseDups_cons, hxy]
  rw [ed]
  refine (if_neg (by decide)).trans ((if_neg ?_).trans ((if_neg (by show ¬ ((2 != 2 || 2 != 2) = true); decide)).trans ((if_neg (by decide)).trans (if_neg (by decide)))))
  rw [Bool.not_eq_true]
  exact h1
end DD
set_option Elab.async false
set_option linter.all false
set_option maxRecDepth 100000
set_option maxHeartbeats 2000000
namespace DD
open PySem PySem.Spec PyProof.Rows L2
theorem Same.mut {H H' : Hp} {p : Addr} {o : HO} (e : Same H H') (h : H p = none) : Same H (upd H' p o) := fun a u ha => by
  rw [upd_ne (ne_of_none ha h)]
  exact e a u ha
theorem ixN_last {ws : List V} {x : V} : ixN (ws ++ [x]).length (-1) = some ws.length := by
  unfold ixN
  rw [if_neg (by decide), if_pos (by rw [List.length_append, List.length_singleton]; omega), List.length_append, List.length_singleton]
  congr 1
  omega
theorem set_last {ws : List V} {x y : V} : (ws ++ [x]).set ws.length y = ws ++ [y] := by
  rw [List.set_append_right _ _ (Nat.le_refl _)]
  simp
def IsRw {α : Type} (f : α → List V) (H : Hp) (v : V) (m : α) : Prop := ∃ a, v = .ref a ∧ H a = some (.tup (f m))
def IsRs {α : Type} (f : α → List V) (H : Hp) (vs : List V) (ms : List α) : Prop := vs.length = ms.length ∧ ∀ (i : Nat) v m, vs[i]? = some v → ms[i]? = some m → IsRw f H v m
section
variable {α : Type} {f : α → List V}
theorem IsRw.on {H H' : Hp} {v : V} {m : α} (e : ∀ a xs, H a = some (.tup xs) → H' a = some (.tup xs)) (x : IsRw f H v m) : IsRw f H' v m := by
  obtain ⟨a, e1, e2⟩ := x
  exact ⟨a, e1, e _ _ e2⟩
theorem IsRs.on {H H' : Hp} {vs : List V} {ms : List α} (e : ∀ a xs, H a = some (.tup xs) → H' a = some (.tup xs)) (x : IsRs f H vs ms) : IsRs f H' vs ms := ⟨x.1, fun i v m h1 h2 => (x.2 i v m h1 h2).on e⟩
theorem IsRs.mono {H H' : Hp} {vs : List V} {ms : List α} (e : Same H H') (x : IsRs f H vs ms) : IsRs f H' vs ms := x.on fun a xs h => e a _ h
theorem IsRs.nil {H : Hp} : IsRs f H [] [] := ⟨rfl, fun i v m h => by simp at h⟩
theorem IsRs.get {H : Hp} {vs : List V} {ms : List α} (x : IsRs f H vs ms) {i : Nat} {v : V} (h : vs[i]? = some v) : ∃ m, ms[i]? = some m ∧ IsRw f H v m := by
  have hi : i < ms.length := by rw [← x.1]; exact (List.getElem?_eq_some_iff.mp h).1
  exact ⟨ms[i], List.getElem?_eq_getElem hi, x.2 i v _ h (List.getElem?_eq_getElem hi)⟩
theorem IsRs.cons {H : Hp} {v : V} {m : α} {vs : List V} {ms : List α} (x : IsRw f H v m) (xs : IsRs f H vs ms) : IsRs f H (v :: vs) (m :: ms) := by
  refine ⟨by simp [xs.1], fun i v' m' h1 h2 => ?_⟩
  cases i with
  | zero =>
    simp at h1 h2
    subst h1 h2
    exact x
  | succ i =>
    simp at h1 h2
    exact xs.2 i v' m' h1 h2
theorem IsRs.one {H : Hp} {v : V} {m : α} (x : IsRw f H v m) : IsRs f H [v] [m] := .cons x .nil
theorem IsRs.take {H : Hp} {vs : List V} {ms : List α} (x : IsRs f H vs ms) (n : Nat) : IsRs f H (vs.take n) (ms.take n) := by
  refine ⟨by simp [x.1], fun i v m h1 h2 => ?_⟩
  rw [List.getElem?_take] at h1 h2
  split at h1
  · rename_i hi
    rw [if_pos hi] at h2
    exact x.2 i v m h1 h2
  · cases h1
end
/-- rows of values, each as told -/
structure AllR {α : Type} (R : V → α → Prop) (vs : List V) (ms : List α) : Prop where
  len : vs.length = ms.length
  at_ : ∀ (i : Nat) v m, vs[i]? = some v → ms[i]? = some m → R v m
theorem AllR.nil {α : Type} {R : V → α → Prop} : AllR R [] [] := ⟨rfl, fun i v m h => by simp at h⟩
theorem AllR.imp {α : Type} {R S : V → α → Prop} {vs : List V} {ms : List α} (h : ∀ v m, R v m → S v m) (x : AllR R vs ms) : AllR S vs ms := ⟨x.len, fun i v m h1 h2 => h v m (x.at_ i v m h1 h2)⟩
theorem AllR.snoc {α : Type} {R : V → α → Prop} {vs : List V} {ms : List α} {v : V} {m : α} (x : AllR R vs ms) (y : R v m) : AllR R (vs ++ [v]) (ms ++ [m]) := by
  refine ⟨by simp [x.len], fun i v' m' h1 h2 => ?_⟩
  by_cases hi : i < vs.length
  · rw [List.getElem?_append_left hi] at h1
    rw [List.getElem?_append_left (by rw [← x.len]; exact hi)] at h2
    exact x.at_ i v' m' h1 h2
  · rw [List.getElem?_append_right (by omega)] at h1
    rw [List.getElem?_append_right (by rw [← x.len]; omega), ← x.len] at h2
    cases e : i - vs.length with
    | zero =>
      rw [e] at h1 h2
      simp at h1 h2
      subst h1 h2
      exact y
    | succ k =>
      rw [e] at h1
      simp at h1
theorem AllR.get {α : Type} {R : V → α → Prop} {vs : List V} {ms : List α} (x : AllR R vs ms) {i : Nat} {v : V} (h : vs[i]? = some v) : ∃ m, ms[i]? = some m ∧ R v m := by
  have hi : i < ms.length := by rw [← x.len]; exact (List.getElem?_eq_some_iff.mp h).1
  exact ⟨ms[i], List.getElem?_eq_getElem hi, x.at_ i v _ h (List.getElem?_eq_getElem hi)⟩
theorem none_of {H H' : Hp} {a : Addr} (e : Same H H') (h : H' a = none) : H a = none := by
  cases z : H a with
  | none => rfl
  | some o => rw [e a o z] at h; cases h
end DD
set_option Elab.async false
set_option linter.all false
set_option maxRecDepth 100000
set_option maxHeartbeats 2000000
namespace DL
open PySem PySem.Spec PyProof.Rows L2 DD
abbrev Fg := PySem.W.Frag
/-- data -/
inductive D where
  | non | bl (b : Bool) | int (i : Int) | str (x : Str)
  | tup (ds : List D) | lst (ds : List D) | scr (ds : List D) | ins (C : Addr) (ks : List Str) (ds : List D) | cls (C : Addr)
  deriving Inhabited
/-- what is owned: its content -/
inductive O where
  | lst (ds : List D) | ins (C : Addr) (ks : List Str) (ds : List D)
@[simp] def O.d : O → D
  | .lst ds => .lst ds
  | .ins C ks ds => .ins C ks ds
inductive Slot where
  | none | val (d : D) | own (o : O) | bor (o : O) | lck (o : O)
abbrev En := List Slot
mutual
/-- v stands for d, in the frozen part G -/
inductive Rep (K : Fg) (G : Hp) : V → D → Prop
  | non : Rep K G .non .non
  | bl (b : Bool) : Rep K G (.bl b) (.bl b)
  | int (i : Int) : Rep K G (.int i) (.int i)
  | str (x : Str) : Rep K G (.str x) (.str x)
  | tup {a : Addr} {vs : List V} {ds : List D} : SqT K G a vs → RepA K G vs ds → Rep K G (.ref a) (.tup ds)
  | lst {a : Addr} {vs : List V} {ds : List D} : G a = some (.lst vs) → RepA K G vs ds → Rep K G (.ref a) (.lst ds)
  | scr {a : Addr} {vs : List V} {ds : List D} : SqL K G a vs → RepA K G vs ds → Rep K G (.ref a) (.scr ds)
  | ins {a C dx : Addr} {fs : List (Str × V)} {ks : List Str} {ds : List D} : G a = some (.ins C dx fs) → fs.map (·.1) = ks → RepA K G (fs.map (·.2)) ds → Rep K G (.ref a) (.ins C ks ds)
  | cls (C : Addr) : Rep K G (.ref C) (.cls C)
inductive RepA (K : Fg) (G : Hp) : List V → List D → Prop
  | nil : RepA K G [] []
  | cons {v : V} {vs : List V} {d : D} {ds : List D} : Rep K G v d → RepA K G vs ds → RepA K G (v :: vs) (d :: ds)
end
theorem smNew {H : Hp} {p : Addr} {o : HO} (h : H p = none) : Same H (upd H p o) := fun a u e => by
  rw [upd_ne (ne_of_none e h)]
  exact e
theorem smTup {K : Fg} {H H' : Hp} {a : Addr} {xs : List V} (e : Same H H') (h : SqT K H a xs) : SqT K H' a xs := by
  rcases h with (h | ⟨o, h⟩) | h
  · exact .inl (.inl (e _ _ h))
  · exact .inl (.inr ⟨o, e _ _ h⟩)
  · exact .inr h
theorem smLst {K : Fg} {H H' : Hp} {a : Addr} {xs : List V} (e : Same H H') (h : SqL K H a xs) : SqL K H' a xs := by
  rcases h with (h | ⟨o, h⟩) | h
  · exact .inl (.inl (e _ _ h))
  · exact .inl (.inr ⟨o, e _ _ h⟩)
  · exact .inr h
section
variable {K : Fg} {G G' : Hp}
mutual
theorem Rep.mono (e : Same G G') : ∀ {v : V} {d : D}, Rep K G v d → Rep K G' v d
  | _, _, .non => .non
  | _, _, .bl b => .bl b
  | _, _, .int i => .int i
  | _, _, .str x => .str x
  | _, _, .tup h r => .tup (smTup e h) (RepA.mono e r)
  | _, _, .lst h r => .lst (e _ _ h) (RepA.mono e r)
  | _, _, .scr h r => .scr (smLst e h) (RepA.mono e r)
  | _, _, .ins h k r => .ins (e _ _ h) k (RepA.mono e r)
  | _, _, .cls C => .cls C
theorem RepA.mono (e : Same G G') : ∀ {vs : List V} {ds : List D}, RepA K G vs ds → RepA K G' vs ds
  | _, _, .nil => .nil
  | _, _, .cons h r => .cons (Rep.mono e h) (RepA.mono e r)
end
theorem RepA.len : ∀ {vs : List V} {ds : List D}, RepA K G vs ds → vs.length = ds.length
  | _, _, .nil => rfl
  | _, _, .cons _ r => by rw [List.length_cons, List.length_cons, r.len]
theorem RepA.get : ∀ {vs : List V} {ds : List D} {i : Nat} {d : D}, RepA K G vs ds → ds[i]? = some d → ∃ v, vs[i]? = some v ∧ Rep K G v d
  | _, _, _, _, .nil, h => by simp at h
  | _, _, 0, _, .cons h r, e => by simp at e; subst e; exact ⟨_, rfl, h⟩
  | _, _, i + 1, _, .cons h r, e => by
    obtain ⟨v, h1, h2⟩ := r.get (i := i) (by simpa using e)
    exact ⟨v, by simpa using h1, h2⟩
theorem RepA.get' : ∀ {vs : List V} {ds : List D} {i : Nat} {v : V}, RepA K G vs ds → vs[i]? = some v → ∃ d, ds[i]? = some d ∧ Rep K G v d
  | _, _, _, _, .nil, h => by simp at h
  | _, _, 0, _, .cons h r, e => by simp at e; subst e; exact ⟨_, rfl, h⟩
  | _, _, i + 1, _, .cons h r, e => by
    obtain ⟨d, h1, h2⟩ := r.get' (i := i) (by simpa using e)
    exact ⟨d, by simpa using h1, h2⟩
theorem RepA.app : ∀ {vs ws : List V} {ds es : List D}, RepA K G vs ds → RepA K G ws es → RepA K G (vs ++ ws) (ds ++ es)
  | _, _, _, _, .nil, r => r
  | _, _, _, _, .cons h r, s => .cons h (r.app s)
theorem RepA.take : ∀ {vs : List V} {ds : List D} (n : Nat), RepA K G vs ds → RepA K G (vs.take n) (ds.take n)
  | _, _, 0, _ => .nil
  | _, _, _ + 1, .nil => .nil
  | _, _, n + 1, .cons h r => .cons h (r.take n)
theorem RepA.drop : ∀ {vs : List V} {ds : List D} (n : Nat), RepA K G vs ds → RepA K G (vs.drop n) (ds.drop n)
  | _, _, 0, r => r
  | _, _, _ + 1, .nil => .nil
  | _, _, n + 1, .cons h r => r.drop n
theorem RepA.set : ∀ {vs : List V} {ds : List D} {v : V} {d : D} (i : Nat), RepA K G vs ds → Rep K G v d → RepA K G (vs.set i v) (ds.set i d)
  | _, _, _, _, _, .nil, _ => .nil
  | _, _, _, _, 0, .cons h r, s => .cons s r
  | _, _, _, _, i + 1, .cons h r, s => .cons h (r.set i s)
theorem RepA.one {v : V} {d : D} (h : Rep K G v d) : RepA K G [v] [d] := .cons h .nil
theorem RepA.ofInts : ∀ {ns : List Int}, RepA K G (ns.map V.int) (ns.map D.int)
  | [] => .nil
  | n :: ns => .cons (.int n) RepA.ofInts
end
structure Fm where
  H0 : Hp
  G0 : Hp
  M : Nat → Option Addr
  L : Nat → Option Addr
def ObjO (K : Fg) (G H : Hp) (a : Addr) : O → Prop
  | .lst ds => ∃ vs, H a = some (.lst vs) ∧ RepA K G vs ds
  | .ins C ks ds => ∃ dx fs, H a = some (.ins C dx fs) ∧ fs.map (·.1) = ks ∧ RepA K G (fs.map (·.2)) ds
theorem ObjO.mono {K : Fg} {G G' H H' : Hp} {a : Addr} {o : O} (e : Same G G') (k : ∀ u, H a = some u → H' a = some u) (h : ObjO K G H a o) : ObjO K G' H' a o := by
  cases o with
  | lst ds =>
    obtain ⟨vs, h1, h2⟩ := h
    exact ⟨vs, k _ h1, h2.mono e⟩
  | ins C ks ds =>
    obtain ⟨dx, fs, h1, h2, h3⟩ := h
    exact ⟨dx, fs, k _ h1, h2, h3.mono e⟩
theorem ObjO.ex {K : Fg} {G H : Hp} {a : Addr} {o : O} (h : ObjO K G H a o) : ∃ u, H a = some u := by
  cases o with
  | lst ds => exact ⟨_, h.choose_spec.1⟩
  | ins C ks ds =>
    obtain ⟨dx, fs, h1, _⟩ := h
    exact ⟨_, h1⟩
def SlotR (K : Fg) (F : Fm) (G H : Hp) (i : Nat) (x : Option V) : Slot → Prop
  | .none => True
  | .val d => ∃ v, x = some v ∧ Rep K G v d
  | .own o => ∃ a, x = some (.ref a) ∧ F.H0 a = none ∧ G a = none ∧ ObjO K G H a o
  | .bor o => ∃ a, x = some (.ref a) ∧ F.M i = some a ∧ G a = none ∧ ObjO K G H a o
  | .lck o => ∃ a u, x = some (.ref a) ∧ F.L i = some a ∧ G a = none ∧ F.H0 a = some u ∧ (∀ j, F.M j ≠ some a) ∧ ObjO K G H a o
structure Rl (K : Fg) (F : Fm) (G H : Hp) (σ : L2.St) (ρ : En) : Prop where
  gh : Same G H
  g0 : Same F.G0 G
  gn : ∀ a o, G a = some o → F.G0 a = none → F.H0 a = none
  hk : ∀ a o, F.H0 a = some o → (∀ i, F.M i ≠ some a) → H a = some o
  hm : ∀ i a, F.M i = some a → H a ≠ none ∧ F.H0 a ≠ none ∧ ∃ o, ρ[i]? = some (.bor o)
  hl : ∀ i a, F.L i = some a → ∃ o, ρ[i]? = some (.lck o)
  sl : ∀ i s, ρ[i]? = some s → ∃ x, σ[i]? = some x ∧ SlotR K F G H i x s
  di : ∀ (i j : Nat) (o o' : O) (a : Addr), ρ[i]? = some (.own o) → ρ[j]? = some (.own o') → σ[i]? = some (some (.ref a)) → σ[j]? = some (some (.ref a)) → i = j
  mi : ∀ i j a, F.M i = some a → F.M j = some a → i = j
section
variable {K : Fg} {F : Fm} {G G' H H' : Hp} {σ σ' : L2.St} {ρ ρ' : En} {a p : Addr}
theorem Rl.fresh (R : Rl K F G H σ ρ) (h : H p = none) : F.H0 p = none := by
  cases e : F.H0 p with
  | none => rfl
  | some o =>
    by_cases q : ∃ i, F.M i = some p
    · obtain ⟨i, q⟩ := q
      exact absurd h (R.hm i p q).1
    · have := R.hk p o e fun i z => q ⟨i, z⟩
      rw [h] at this
      cases this
theorem Rl.freshG (R : Rl K F G H σ ρ) (h : H p = none) : G p = none := none_of R.gh h
/-- the owner's address -/
theorem Rl.own {i : Nat} {o : O} (R : Rl K F G H σ ρ) (h : ρ[i]? = some (.own o)) : ∃ a, σ[i]? = some (some (.ref a)) ∧ F.H0 a = none ∧ G a = none ∧ ObjO K G H a o := by
  obtain ⟨x, h1, a, rfl, h2, h3, h4⟩ := R.sl i _ h
  exact ⟨a, h1, h2, h3, h4⟩
theorem Rl.bor {i : Nat} {o : O} (R : Rl K F G H σ ρ) (h : ρ[i]? = some (.bor o)) : ∃ a, σ[i]? = some (some (.ref a)) ∧ F.M i = some a ∧ G a = none ∧ ObjO K G H a o := by
  obtain ⟨x, h1, a, rfl, h2, h3, h4⟩ := R.sl i _ h
  exact ⟨a, h1, h2, h3, h4⟩
theorem Rl.val {i : Nat} {d : D} (R : Rl K F G H σ ρ) (h : ρ[i]? = some (.val d)) : ∃ v, σ[i]? = some (some v) ∧ Rep K G v d := by
  obtain ⟨x, h1, v, rfl, h2⟩ := R.sl i _ h
  exact ⟨v, h1, h2⟩
/-- a slot whose object stands as before -/
theorem SlotR.mono {i : Nat} {x : Option V} {s : Slot} (e : Same G G') (n : ∀ a, x = some (.ref a) → G a = none → (∃ u, H a = some u) → G' a = none) (k : ∀ a u, x = some (.ref a) → H a = some u → H' a = some u) (h : SlotR K F G H i x s) : SlotR K F G' H' i x s := by
  cases s with
  | none => trivial
  | val d =>
    obtain ⟨v, e1, e2⟩ := h
    exact ⟨v, e1, e2.mono e⟩
  | own o =>
    obtain ⟨a, e1, e2, e3, e4⟩ := h
    exact ⟨a, e1, e2, n a e1 e3 e4.ex, e4.mono e fun u => k a u e1⟩
  | bor o =>
    obtain ⟨a, e1, e2, e3, e4⟩ := h
    exact ⟨a, e1, e2, n a e1 e3 e4.ex, e4.mono e fun u => k a u e1⟩
  | lck o =>
    obtain ⟨a, u, e1, e2, e3, e5, e6, e4⟩ := h
    exact ⟨a, u, e1, e2, n a e1 e3 e4.ex, e5, e6, e4.mono e fun u => k a u e1⟩
theorem smNewG {o : HO} (h : G a = none) : Same G (upd G a o) := smNew h
/-- the heap grows, nothing that stood changes -/
theorem Rl.grow (R : Rl K F G H σ ρ) (k : Same H H') : Rl K F G H' σ ρ where
  gh := R.gh.trans k
  g0 := R.g0
  gn := R.gn
  hk := fun a o h n => k _ _ (R.hk a o h n)
  hm := fun i a h => by
    obtain ⟨h1, h2, h3⟩ := R.hm i a h
    refine ⟨fun z => ?_, h2, h3⟩
    cases e : H a with
    | none => exact h1 e
    | some u => rw [k a u e] at z; cases z
  hl := R.hl
  sl := fun i s h => by
    obtain ⟨x, h1, h2⟩ := R.sl i s h
    exact ⟨x, h1, h2.mono (Same.refl G) (fun _ _ g _ => g) fun a u _ e => k a u e⟩
  di := R.di
  mi := R.mi
theorem Rl.laid {o : HO} (R : Rl K F G H σ ρ) (h : H p = none) : Rl K F G (upd H p o) σ ρ := R.grow (smNew h)
/-- what no slot owns is frozen -/
theorem Rl.frz {o : HO} (R : Rl K F G H σ ρ) (h : H a = some o) (h0 : F.H0 a = none) (hg : G a = none) (n : ∀ (j : Nat) (u : O), ρ[j]? = some (.own u) → σ[j]? ≠ some (some (.ref a))) : Rl K F (upd G a o) H σ ρ where
  gh := fun b u e => by
    by_cases q : b = a
    · subst q
      rw [upd_same] at e
      cases e
      exact h
    · rw [upd_ne q] at e
      exact R.gh b u e
  g0 := R.g0.trans (smNew hg)
  gn := fun b u e g => by
    by_cases q : b = a
    · subst q; exact h0
    · rw [upd_ne q] at e
      exact R.gn b u e g
  hk := R.hk
  hm := R.hm
  hl := R.hl
  sl := fun i s hs => by
    obtain ⟨x, h1, h2⟩ := R.sl i s hs
    refine ⟨x, h1, ?_⟩
    have ne : ∀ b, b ≠ a → G b = none → upd G a o b = none := fun b q g => by rw [upd_ne q]; exact g
    have M := smNewG (o := o) hg
    cases s with
    | none => trivial
    | val d =>
      obtain ⟨v, e1, e2⟩ := h2
      exact ⟨v, e1, e2.mono M⟩
    | own u =>
      obtain ⟨b, rfl, e2, e3, e4⟩ := h2
      exact ⟨b, rfl, e2, ne b (fun q => n i u hs (by rw [h1, q])) e3, e4.mono M fun _ z => z⟩
    | bor u =>
      obtain ⟨b, rfl, e2, e3, e4⟩ := h2
      exact ⟨b, rfl, e2, ne b (fun q => (R.hm i b e2).2.1 (by rw [q]; exact h0)) e3, e4.mono M fun _ z => z⟩
    | lck u =>
      obtain ⟨b, u', rfl, e2, e3, e5, e6, e4⟩ := h2
      exact ⟨b, u', rfl, e2, ne b (fun q => by rw [q, h0] at e5; cases e5) e3, e5, e6, e4.mono M fun _ z => z⟩
  di := R.di
  mi := R.mi
/-- a new frozen object -/
theorem Rl.add {o : HO} (R : Rl K F G H σ ρ) (h : H p = none) : Rl K F (upd G p o) (upd H p o) σ ρ := by
  refine (R.laid (o := o) h).frz upd_same (R.fresh h) (R.freshG h) fun j u hj z => ?_
  obtain ⟨b, h1, _, _, h4⟩ := R.own hj
  rw [h1] at z
  cases z
  obtain ⟨u, e⟩ := h4.ex
  rw [h] at e
  cases e
theorem getset {α : Type} {l : List α} {i j : Nat} {x y : α} (h : (l.set i x)[j]? = some y) : (i = j ∧ x = y ∧ i < l.length) ∨ (i ≠ j ∧ l[j]? = some y) := by
  by_cases e : i = j
  · subst e
    by_cases q : i < l.length
    · rw [List.getElem?_set_self q] at h
      exact .inl ⟨rfl, Option.some.inj h, q⟩
    · rw [List.getElem?_eq_none (by simpa using q)] at h
      cases h
  · rw [List.getElem?_set_ne e] at h
    exact .inr ⟨e, h⟩
theorem Rl.lt {i : Nat} (R : Rl K F G H σ ρ) (h : i < ρ.length) : i < σ.length := by
  obtain ⟨x, h1, _⟩ := R.sl i _ (List.getElem?_eq_getElem h)
  exact (List.getElem?_eq_some_iff.mp h1).1
/-- may a name be stored to -/
def Slot.free : Slot → Bool
  | .bor _ | .lck _ => false
  | _ => true
@[simp] def freeAt (ρ : En) (i : Nat) : Bool := match ρ[i]? with
  | some s => s.free
  | none => false
theorem freeAt_lt {i : Nat} (h : freeAt ρ i = true) : i < ρ.length := by
  unfold freeAt at h
  cases e : ρ[i]? with
  | none => rw [e] at h; cases h
  | some s => exact (List.getElem?_eq_some_iff.mp e).1
/-- a slot is stored to -/
theorem Rl.put {i : Nat} {v : V} {s : Slot} (R : Rl K F G H σ ρ) (hf : freeAt ρ i = true) (hs : SlotR K F G H i (some v) s) (hn : s.free = true) (hd : ∀ (o : O), s = .own o → ∀ (j : Nat) (o' : O), j ≠ i → ρ[j]? = some (.own o') → σ[j]? ≠ some (some v)) : Rl K F G H (σ.set i (some v)) (ρ.set i s) where
  gh := R.gh
  g0 := R.g0
  gn := R.gn
  hk := R.hk
  hm := fun j a h => by
    obtain ⟨h1, h2, o, h3⟩ := R.hm j a h
    refine ⟨h1, h2, o, ?_⟩
    by_cases e : i = j
    · subst e
      unfold freeAt at hf
      rw [h3] at hf
      cases hf
    · rw [List.getElem?_set_ne e]; exact h3
  hl := fun j a h => by
    obtain ⟨o, h3⟩ := R.hl j a h
    refine ⟨o, ?_⟩
    by_cases e : i = j
    · subst e
      unfold freeAt at hf
      rw [h3] at hf
      cases hf
    · rw [List.getElem?_set_ne e]; exact h3
  sl := fun j t h => by
    rcases getset h with ⟨rfl, rfl, hl⟩ | ⟨ne, h⟩
    · exact ⟨some v, by rw [List.getElem?_set_self (R.lt hl)], hs⟩
    · obtain ⟨x, h1, h2⟩ := R.sl j t h
      exact ⟨x, by rw [List.getElem?_set_ne ne]; exact h1, h2⟩
  di := fun j k o o' a h1 h2 h3 h4 => by
    have hil : i < ρ.length := freeAt_lt hf
    rcases getset h1 with ⟨rfl, rfl, _⟩ | ⟨n1, h1⟩
    · rcases getset h2 with ⟨rfl, _, _⟩ | ⟨n2, h2⟩
      · rfl
      · rw [List.getElem?_set_self (R.lt hil)] at h3
        rw [List.getElem?_set_ne n2] at h4
        cases h3
        exact absurd h4 (hd o rfl k o' (Ne.symm n2) h2)
    · have h1x := h1
      rw [List.getElem?_set_ne n1] at h3
      rcases getset h2 with ⟨rfl, rfl, _⟩ | ⟨n2, h2⟩
      · rw [List.getElem?_set_self (R.lt hil)] at h4
        cases h4
        exact absurd h3 (hd o' rfl j o (Ne.symm n1) h1x)
      · rw [List.getElem?_set_ne n2] at h4
        exact R.di j k o o' a h1 h2 h3 h4
  mi := R.mi
/-- a slot is forgotten -/
theorem Rl.forget {i : Nat} {x : Option V} (R : Rl K F G H σ ρ) (hf : freeAt ρ i = true) : Rl K F G H (σ.set i x) (ρ.set i .none) where
  gh := R.gh
  g0 := R.g0
  gn := R.gn
  hk := R.hk
  hm := fun j a h => by
    obtain ⟨h1, h2, o, h3⟩ := R.hm j a h
    refine ⟨h1, h2, o, ?_⟩
    by_cases e : i = j
    · subst e
      unfold freeAt at hf
      rw [h3] at hf
      cases hf
    · rw [List.getElem?_set_ne e]; exact h3
  hl := fun j a h => by
    obtain ⟨o, h3⟩ := R.hl j a h
    refine ⟨o, ?_⟩
    by_cases e : i = j
    · subst e
      unfold freeAt at hf
      rw [h3] at hf
      cases hf
    · rw [List.getElem?_set_ne e]; exact h3
  sl := fun j t h => by
    rcases getset h with ⟨rfl, rfl, hl⟩ | ⟨ne, h⟩
    · exact ⟨x, by rw [List.getElem?_set_self (R.lt hl)], trivial⟩
    · obtain ⟨x, h1, h2⟩ := R.sl j t h
      exact ⟨x, by rw [List.getElem?_set_ne ne]; exact h1, h2⟩
  di := fun j k o o' a h1 h2 h3 h4 => by
    rcases getset h1 with ⟨rfl, e, _⟩ | ⟨n1, h1⟩
    · cases e
    · rcases getset h2 with ⟨rfl, e, _⟩ | ⟨n2, h2⟩
      · cases e
      · rw [List.getElem?_set_ne n1] at h3
        rw [List.getElem?_set_ne n2] at h4
        exact R.di j k o o' a h1 h2 h3 h4
  mi := R.mi
/-- what is owned changes -/
def Slot.re : Slot → O → Option Slot
  | .own _, o => some (.own o)
  | .bor _, o => some (.bor o)
  | _, _ => Option.none
def Slot.co : Slot → Option O
  | .own o | .bor o => some o
  | _ => Option.none
theorem re_cases {s s' : Slot} {o : O} (h : s.re o = some s') : (∃ u, s = .own u ∧ s' = .own o) ∨ (∃ u, s = .bor u ∧ s' = .bor o) := by
  cases s <;> simp [Slot.re] at h
  · exact .inl ⟨_, rfl, h.symm⟩
  · exact .inr ⟨_, rfl, h.symm⟩
theorem co_cases {s : Slot} {o : O} (h : s.co = some o) : s = .own o ∨ s = .bor o := by
  cases s <;> simp [Slot.co] at h
  · exact .inl (by rw [h])
  · exact .inr (by rw [h])
theorem Rl.holder {i : Nat} {s : Slot} {o : O} (R : Rl K F G H σ ρ) (h : ρ[i]? = some s) (hc : s.co = some o) : ∃ a, σ[i]? = some (some (.ref a)) ∧ G a = none ∧ ObjO K G H a o := by
  rcases co_cases hc with rfl | rfl
  · obtain ⟨a, h1, _, h2, h3⟩ := R.own h
    exact ⟨a, h1, h2, h3⟩
  · obtain ⟨a, h1, _, h2, h3⟩ := R.bor h
    exact ⟨a, h1, h2, h3⟩
theorem Rl.mut {i : Nat} {s s' : Slot} {o : O} {u : HO} (R : Rl K F G H σ ρ) (h : ρ[i]? = some s) (hs : s.re o = some s') (hv : σ[i]? = some (some (.ref a))) (ho : ObjO K G (upd H a u) a o) : Rl K F G (upd H a u) σ (ρ.set i s') := by
  have hil : i < ρ.length := (List.getElem?_eq_some_iff.mp h).1
  have hg : G a = none := by
    rcases re_cases hs with ⟨u0, rfl, rfl⟩ | ⟨u0, rfl, rfl⟩
    · obtain ⟨b, h1, _, h2, _⟩ := R.own h
      rw [hv] at h1; cases h1; exact h2
    · obtain ⟨b, h1, _, h2, _⟩ := R.bor h
      rw [hv] at h1; cases h1; exact h2
  have hc : ∀ x, F.H0 a = some x → ∃ j, F.M j = some a := fun x e => by
    rcases re_cases hs with ⟨u0, rfl, rfl⟩ | ⟨u0, rfl, rfl⟩
    · obtain ⟨b, h1, h2, _⟩ := R.own h
      rw [hv] at h1; cases h1; rw [h2] at e; cases e
    · obtain ⟨b, h1, h2, _⟩ := R.bor h
      rw [hv] at h1; cases h1; exact ⟨i, h2⟩
  refine ⟨fun b x e => ?_, R.g0, R.gn, fun b x e n => ?_, fun j b e => ?_, fun j b e => ?_, fun j t e => ?_, fun j k w w' b h1 h2 h3 h4 => ?_, R.mi⟩
  · rw [upd_ne (ne_of_none e hg)]
    exact R.gh b x e
  · by_cases q : b = a
    · subst q
      obtain ⟨j, z⟩ := hc x e
      exact absurd z (n j)
    · rw [upd_ne q]
      exact R.hk b x e n
  · obtain ⟨h1, h2, w, h3⟩ := R.hm j b e
    refine ⟨fun z => ?_, h2, ?_⟩
    · by_cases q : b = a
      · rw [q, upd_same] at z; cases z
      · rw [upd_ne q] at z; exact h1 z
    · by_cases q : i = j
      · subst q
        rw [h] at h3
        rcases re_cases hs with ⟨u0, rfl, rfl⟩ | ⟨u0, rfl, rfl⟩
        · cases h3
        · exact ⟨o, List.getElem?_set_self hil⟩
      · rw [List.getElem?_set_ne q]
        exact ⟨w, h3⟩
  · obtain ⟨w, h3⟩ := R.hl j b e
    by_cases q : i = j
    · subst q
      rw [h] at h3
      rcases re_cases hs with ⟨u0, rfl, rfl⟩ | ⟨u0, rfl, rfl⟩ <;> cases h3
    · rw [List.getElem?_set_ne q]
      exact ⟨w, h3⟩
  · rcases getset e with ⟨rfl, rfl, _⟩ | ⟨ne, e'⟩
    · refine ⟨_, hv, ?_⟩
      rcases re_cases hs with ⟨u0, rfl, rfl⟩ | ⟨u0, rfl, rfl⟩
      · obtain ⟨b, h1, h2, h3, _⟩ := R.own h
        rw [hv] at h1; cases h1
        exact ⟨_, rfl, h2, h3, ho⟩
      · obtain ⟨b, h1, h2, h3, _⟩ := R.bor h
        rw [hv] at h1; cases h1
        exact ⟨_, rfl, h2, h3, ho⟩
    · obtain ⟨x, h1, h2⟩ := R.sl j t e'
      refine ⟨x, h1, ?_⟩
      have far : ∀ {b w}, b ≠ a → ObjO K G H b w → ObjO K G (upd H a u) b w := fun {b w} q z => z.mono (Same.refl G) fun y e => by rw [upd_ne q]; exact e
      cases t with
      | none => trivial
      | val d => exact h2
      | own w =>
        obtain ⟨b, rfl, e2, e3, e4⟩ := h2
        refine ⟨b, rfl, e2, e3, far (fun q => ?_) e4⟩
        subst q
        rcases re_cases hs with ⟨u0, rfl, rfl⟩ | ⟨u0, rfl, rfl⟩
        · exact ne (R.di i j _ _ b h e' hv h1)
        · obtain ⟨c, h1, h2, _⟩ := R.bor h
          rw [hv] at h1; cases h1
          exact (R.hm i _ h2).2.1 e2
      | bor w =>
        obtain ⟨b, rfl, e2, e3, e4⟩ := h2
        refine ⟨b, rfl, e2, e3, far (fun q => ?_) e4⟩
        subst q
        rcases re_cases hs with ⟨u0, rfl, rfl⟩ | ⟨u0, rfl, rfl⟩
        · obtain ⟨c, h1, h2, _⟩ := R.own h
          rw [hv] at h1; cases h1
          exact (R.hm j _ e2).2.1 h2
        · obtain ⟨c, h1, h2, _⟩ := R.bor h
          rw [hv] at h1; cases h1
          exact ne (R.mi i j b h2 e2)
      | lck w =>
        obtain ⟨b, y, rfl, e2, e3, e5, e6, e4⟩ := h2
        refine ⟨b, y, rfl, e2, e3, e5, e6, far (fun q => ?_) e4⟩
        subst q
        obtain ⟨j, z⟩ := hc y e5
        exact e6 j z
  · rcases getset h1 with ⟨rfl, e1, _⟩ | ⟨n1, h1'⟩
    · rcases getset h2 with ⟨rfl, _, _⟩ | ⟨n2, h2'⟩
      · rfl
      · rcases re_cases hs with ⟨u0, rfl, rfl⟩ | ⟨u0, rfl, rfl⟩
        · exact R.di _ _ _ _ b h h2' h3 h4
        · cases e1
    · rcases getset h2 with ⟨rfl, e2, _⟩ | ⟨n2, h2'⟩
      · rcases re_cases hs with ⟨u0, rfl, rfl⟩ | ⟨u0, rfl, rfl⟩
        · exact R.di _ _ _ _ b h1' h h3 h4
        · cases e2
      · exact R.di j k w w' b h1' h2' h3 h4
end
end DL
set_option Elab.async false
set_option linter.all false
set_option maxRecDepth 100000
set_option maxHeartbeats 2000000
namespace DD
open PySem PySem.Spec PyProof.Rows L2
section
variable {X : Cx}
/-- repr(x), x a list, tuple or dict of data -/
def rReprD (K : PySem.W.Frag) : List V → Hp → VK → Prop := fun xs H Q => ∃ a d, xs = [.ref a] ∧ Dp K H (.ref a) d ∧ d.showable = true ∧ d.hasDict = false ∧ d.depth ≤ 60 ∧ d.shown.length ≤ sizeLine ∧ Q (.str d.shown) H
theorem call_reprD (hg : X.A.guards = some []) (hu : X.A.units + 64 < cLine) : CallR X (.builtin "repr") (rReprD X.K) := by
  intro pins s σ H xs us Q I r h
  obtain ⟨a, d, rfl, hd, hs, hn, hp, hz, q⟩ := h
  obtain ⟨u, rfl, ru⟩ := r.one
  obtain ⟨as, rd⟩ := Dp.reads I d _ u hd ru
  obtain rfl : u = Value.ref a := ru
  exact repr_of_reads' rd hs (fun e => by rw [hn] at e; cases e) hg (by omega) (fun _ _ e => e) (fun h' u tk hk => ⟨.str d.shown, H, I.kept hk, ⟨u, rfl⟩, q⟩) hz
end
section
variable {P : Program} {w : World} {K : PySem.W.Frag} {mg : Str → Option Value} {base : Heap}
/-- a def's promise where the guards are known -/
def FnG (P : Program) (w : World) (K : PySem.W.Frag) (mg : Str → Option Value) (base : Heap) (k : Nat) (f : Addr) (fd : FuncData) (ps : List Str) (sp : Sp) : Prop :=
  ∀ (A : Around) (outer : List Env) (s : Shared) (H : Hp) (args : Args) (us : List Value) (vs : List V) (Q : VK) (E : XK), Room k A → A.guards = some [] → Env0 P w K mg base A outer s H → BindsTo s fd args (ps.zip us) → Vals vs us → sp vs H Q E →
    codeAny (model P w) A (.call (.ref f) args) (CR CX0 outer P w H s Q E) s
theorem fnG_of {name qual : Str} {params : Arguments} {body : List Stmt} {scope : Scope} {dV kV doc pm cdv ct oc : Value} {an od : Option Addr} {f : Addr} {k : Nat} {osl : Array (Option Value)} {N ps : List Str} {sp : Sp}
    (lk : K.lookup f = some ⟨oc, od, .func (PySem.W.fnOf name qual params body scope dV kV doc pm an cdv ct), osl⟩) (hcd : PySem.W.codeIn K cdv qual = true) (S : FnScope N ps scope) (len : ∀ vs H Q E, sp vs H Q E → vs.length = ps.length)
    (hbody : ∀ (A : Around) (outer : List Env) (s : Shared) (H : Hp) (vs : List V) (Q : VK) (E : XK), Room k (A.deeper (envOfC qual scope s.heap.objs.size f cdv)) → (A.deeper (envOfC qual scope s.heap.objs.size f cdv)).guards = some [] → sp vs H Q E →
      ∃ t, PSs (cxOf CX0 P w K mg base N qual scope f cdv A outer s H E).nox body t ∧ t { nx := fun _ H' => Q .non H', rt := Q } (start N vs) H) :
    FnG P w K mg base (k + 1) f (PySem.W.fnOf name qual params body scope dV kV doc pm an cdv ct) ps sp := by
  intro A outer s H args us vs Q E room hg e0 binds vals h
  have inS : ∀ {b : Addr} {o : Obj}, base.get? b = some o → s.heap.get? b = some o := fun e => (e0.bs _ _ e).1
  have kinS : K.In s.heap := e0.mod.kin.keeps fun _ _ => inS
  refine codeAny_call_function room.depth (kinS _ _ lk) rfl S.co S.gen rfl (PySem.W.codeRec_of kinS hcd) (binds _ _ _ _ (wpAny_newFunctionEnv_cells S.kind (fun y hy => ?_) fun env he s1 x => ?_))
  · have hp := S.par y.1 (List.of_mem_zip (show (y.1, y.2) ∈ ps.zip us from hy)).1
    exact hp.imp id fun c => ⟨c, PySem.W.cellsFrom_some _ _ _ (.inl c)⟩
  · cases he
    refine ⟨(e0.mod.nolimit.keeps fun _ _ => inS).keeps x.toInCall.keep, codeAny_func ?_⟩
    obtain ⟨t, run, start_⟩ := hbody A outer s H vs Q E (room.deeper _) (by exact hg) h
    have I : Inv (cxOf CX0 P w K mg base N qual scope f cdv A outer s H E) [] (start N vs) H s1 := inv_start S room.hd e0 (len _ _ _ _ h) vals x
    refine wpAny_mono (run.nox.run [] s1 (start N vs) H _ I start_) (fun fl s2 z => ?_) fun _ _ z => z
    cases fl with
    | ret u =>
      obtain ⟨v, σ', H', J, rv, qv⟩ := z
      exact ⟨v, H', J.os, J.bare, J.base, J.hok, rv, qv⟩
    | next =>
      obtain ⟨σ', H', J, qv⟩ := z
      exact ⟨.non, H', J.os, J.bare, J.base, J.hok, rfl, qv⟩
    | brk => exact z.choose_spec.choose_spec.2.elim
    | cont => exact z.choose_spec.choose_spec.2.elim
end
end DD
set_option Elab.async false
set_option linter.all false
set_option maxRecDepth 100000
set_option maxHeartbeats 2000000
namespace DD
open PySem PySem.Spec PyProof.Rows L2
abbrev Blk := Int × Int × Bool
/-- the word of a block: private or busy -/
def wd (b : Bool) : Str := if b = true then "private" else "busy"
def IsBk (h : Heap) (v : Value) (m : Blk) : Prop := ∃ a o t u z n, v = .ref a ∧ h.get? a = some o ∧ o.cls = .type "tuple" ∧ o.data = .seq #[.int m.1 t, .int m.2.1 u, .str (wd m.2.2) z] n
theorem IsBk.keeps {h h' : Heap} {v : Value} {m : Blk} (p : IsBk h v m) (k : ∀ b o, h.get? b = some o → o.cls = .type "tuple" → h'.get? b = some o) : IsBk h' v m := by
  obtain ⟨a, o, t, u, z, n, e, ho, hc, hd⟩ := p
  exact ⟨a, o, t, u, z, n, e, k _ _ ho hc, hc, hd⟩
end DD
set_option Elab.async false
set_option linter.all false
set_option maxRecDepth 100000
set_option maxHeartbeats 2000000
namespace DD
open PySem PySem.Spec PyProof.Rows L2
end DD
set_option Elab.async false
set_option linter.all false
set_option maxRecDepth 100000
set_option maxHeartbeats 2000000
namespace DD
open PySem PySem.Spec PyProof.Rows L2
end DD
set_option Elab.async false
set_option linter.all false
set_option maxRecDepth 100000
set_option maxHeartbeats 2000000
namespace DD
open PySem PySem.Spec PyProof.Rows L2
end DD
set_option Elab.async false
set_option linter.all false
set_option maxRecDepth 100000
set_option maxHeartbeats 2000000
namespace DD
open PySem PySem.Spec PyProof.Rows L2
section
variable {X : Cx}
def rLtD (K : PySem.W.Frag) : R2 := fun x y H Q => ∃ d e, Dp K H x d ∧ Dp K H y e ∧ PySem.W.alike d e = true ∧ d ≠ .none ∧ min d.depth e.depth ≤ 60 ∧ Q (.bl (PySem.W.dataLt d e)) H
theorem op_ltD (hu : X.A.units + 64 < cLine) : OpR X (compareOp .Lt) (rLtD X.K) := by
  intro pins s σ H x y v u Q I rx ry h
  obtain ⟨d, e, hd, he, ha, hn, hp, q⟩ := h
  obtain ⟨as, r1⟩ := Dp.reads I d x v hd rx
  obtain ⟨bs, r2⟩ := Dp.reads I e y u he ry
  show wpAny _ _ (richCompare .Lt v u) _ _ _
  exact PySem.W.rcLt_alike d e X.A s v u as bs r1 r2 ha hn (by omega) X.prog X.w _ _ ⟨.bl _, H, I, rfl, q⟩
end
end DD
set_option Elab.async false
set_option linter.all false
set_option maxRecDepth 100000
set_option maxHeartbeats 2000000
namespace DL
open PySem PySem.Spec PyProof.Rows L2 DD
/-- what an expression hands on: data, an owner's slot, a new owned thing -/
inductive X where
  | val (d : D) | own (i : Nat) | new (o : O)
def X.settle : X → X
  | .new o => .val o.d
  | x => x
def Slot.dd : Slot → Option D
  | .val d => some d
  | .own o | .bor o | .lck o => some o.d
  | .none => Option.none
def deref (ρ : En) : X → Option D
  | .val d => some d
  | .new o => some o.d
  | .own i => ρ[i]?.bind Slot.dd
/-- as frozen data -/
def toVal (ρ : En) : X → Option (D × En)
  | .val d => some (d, ρ)
  | .new o => some (o.d, ρ)
  | .own i => match ρ[i]? with
    | some (.val d) => some (d, ρ)
    | some (.own o) => some (o.d, ρ.set i (.val o.d))
    | _ => none
structure Xc where
  cls : Value
  ks : List Str
  ds : List D
inductive Res (α : Type) where
  | ok (a : α) (ρ : En) | err (x : Xc) (ρ : En) | stuck
def Res.bind {α β : Type} : Res α → (α → En → Res β) → Res β
  | .ok a ρ, U => U a ρ
  | .err x ρ, _ => .err x ρ
  | .stuck, _ => .stuck
def lift {α : Type} (o : Option α) (ρ : En) : Res α := match o with
  | some a => .ok a ρ
  | none => .stuck
def RepX (K : Fg) (F : Fm) (G H : Hp) (σ : L2.St) (ρ : En) (v : V) : X → Prop
  | .val d => Rep K G v d
  | .own i => σ[i]? = some (some v)
  | .new o => ∃ a, v = .ref a ∧ F.H0 a = none ∧ G a = none ∧ ObjO K G H a o ∧ ∀ (j : Nat) (u : O), ρ[j]? = some (.own u) → σ[j]? ≠ some (some (.ref a))
/-- a value that is read: frozen, or owned by someone -/
def DRep (K : Fg) (G H : Hp) (v : V) (d : D) : Prop := Rep K G v d ∨ ∃ a o, v = .ref a ∧ d = O.d o ∧ ObjO K G H a o
inductive DRepA (K : Fg) (G H : Hp) : List V → List D → Prop
  | nil : DRepA K G H [] []
  | cons {v : V} {vs : List V} {d : D} {ds : List D} : DRep K G H v d → DRepA K G H vs ds → DRepA K G H (v :: vs) (d :: ds)
inductive RepXs (K : Fg) (F : Fm) (G H : Hp) (σ : L2.St) (ρ : En) : List V → List X → Prop
  | nil : RepXs K F G H σ ρ [] []
  | cons {v : V} {vs : List V} {x : X} {xs : List X} : RepX K F G H σ ρ v x → (∀ o, x ≠ .new o) → RepXs K F G H σ ρ vs xs → RepXs K F G H σ ρ (v :: vs) (x :: xs)
def XRep (K : Fg) (G H : Hp) (c : Value) (od : Option Addr) (x : Xc) : Prop := c = x.cls ∧ ((od = none ∧ x.ks = []) ∨ ∃ e fs, od = some e ∧ G e = some (.xd fs) ∧ fs.map (·.1) = x.ks ∧ RepA K G (fs.map (·.2)) x.ds)
section
variable {K : Fg} {F : Fm} {G G' H H' : Hp} {σ σ' : L2.St} {ρ ρ' : En} {v : V} {x : X} {d : D}
/-- a settled thing stays -/
theorem RepX.keep (h : RepX K F G H σ ρ v x) (n : ∀ o, x ≠ .new o) (e : Same G G') : RepX K F G' H' σ ρ' v x := by
  cases x with
  | val d => exact Rep.mono e h
  | own i => exact h
  | new o => exact absurd rfl (n o)
theorem settle_no : ∀ o, x.settle ≠ .new o := by
  intro o
  cases x <;> intro z <;> cases z
theorem ObjO.rep {a : Addr} {o : O} (h : ObjO K G H a o) : ∃ u, H a = some u ∧ ∀ G', Same G G' → G' a = some u → Rep K G' (.ref a) o.d := by
  cases o with
  | lst ds =>
    obtain ⟨vs, h1, h2⟩ := h
    exact ⟨_, h1, fun G' e g => .lst g (h2.mono e)⟩
  | ins C ks ds =>
    obtain ⟨dx, fs, h1, h2, h3⟩ := h
    exact ⟨_, h1, fun G' e g => .ins g h2 (h3.mono e)⟩
theorem Rl.settle (R : Rl K F G H σ ρ) (h : RepX K F G H σ ρ v x) : ∃ G', Rl K F G' H σ ρ ∧ Same G G' ∧ RepX K F G' H σ ρ v x.settle := by
  cases x with
  | val d => exact ⟨G, R, Same.refl G, h⟩
  | own i => exact ⟨G, R, Same.refl G, h⟩
  | new o =>
    obtain ⟨a, rfl, h0, hg, ho, n⟩ := h
    obtain ⟨u, hu, r⟩ := ho.rep
    exact ⟨upd G a u, R.frz hu h0 hg n, smNew hg, r _ (smNew hg) upd_same⟩
/-- the owner of slot i gives its thing up -/
theorem Rl.give {i : Nat} {o : O} (R : Rl K F G H σ ρ) (h : ρ[i]? = some (.own o)) : ∃ G' a, σ[i]? = some (some (.ref a)) ∧ Rl K F G' H σ (ρ.set i (.val o.d)) ∧ Same G G' ∧ Rep K G' (.ref a) o.d := by
  obtain ⟨a, hv, h0, hg, ho⟩ := R.own h
  obtain ⟨u, hu, r⟩ := ho.rep
  have hil : i < ρ.length := (List.getElem?_eq_some_iff.mp h).1
  have hf : freeAt ρ i = true := by unfold freeAt; rw [h]; rfl
  have R1 : Rl K F G H (σ.set i (some (.ref a))) (ρ.set i .none) := R.forget hf
  have eσ : σ.set i (some (.ref a)) = σ := by
    apply List.ext_getElem?
    intro j
    by_cases e : i = j
    · subst e
      rw [List.getElem?_set_self (R.lt hil), hv]
    · rw [List.getElem?_set_ne e]
  rw [eσ] at R1
  have n : ∀ (j : Nat) (u : O), (ρ.set i Slot.none)[j]? = some (.own u) → σ[j]? ≠ some (some (.ref a)) := fun j u hj z => by
    rcases getset hj with ⟨_, e, _⟩ | ⟨ne, hj⟩
    · cases e
    · exact ne (R.di i j _ _ a h hj hv z)
  have R2 := R1.frz hu h0 hg n
  have rp := r _ (smNew (o := u) hg) upd_same
  have R3 := R2.put (i := i) (v := .ref a) (s := .val o.d) (by unfold freeAt; rw [List.getElem?_set_self hil]; rfl) ⟨_, rfl, rp⟩ rfl (fun o e => by cases e)
  rw [eσ, List.set_set] at R3
  exact ⟨_, a, hv, R3, smNew hg, rp⟩
theorem Rl.toVal (R : Rl K F G H σ ρ) (h : RepX K F G H σ ρ v x) (e : toVal ρ x = some (d, ρ')) : ∃ G', Rl K F G' H σ ρ' ∧ Same G G' ∧ Rep K G' v d := by
  cases x with
  | val d' =>
    cases e
    exact ⟨G, R, Same.refl G, h⟩
  | new o =>
    cases e
    obtain ⟨G', R', s, r⟩ := R.settle h
    exact ⟨G', R', s, r⟩
  | own i =>
    simp only [DL.toVal] at e
    cases e2 : ρ[i]? with
    | none => rw [e2] at e; cases e
    | some s =>
      rw [e2] at e
      cases s with
      | val d' =>
        cases e
        obtain ⟨v', h1, h2⟩ := R.val e2
        rw [show σ[i]? = some (some v) from h] at h1
        cases h1
        exact ⟨G, R, Same.refl G, h2⟩
      | own o =>
        cases e
        obtain ⟨G', a, h1, R', s, r⟩ := R.give e2
        rw [show σ[i]? = some (some v) from h] at h1
        cases h1
        exact ⟨G', R', s, r⟩
      | none => cases e
      | bor o => cases e
      | lck o => cases e
theorem Rl.deref (R : Rl K F G H σ ρ) (h : RepX K F G H σ ρ v x) (e : deref ρ x = some d) : DRep K G H v d := by
  cases x with
  | val d' => cases e; exact .inl h
  | new o =>
    cases e
    obtain ⟨a, rfl, _, _, ho, _⟩ := h
    exact .inr ⟨a, o, rfl, rfl, ho⟩
  | own i =>
    simp only [DL.deref] at e
    cases e2 : ρ[i]? with
    | none => rw [e2] at e; cases e
    | some s =>
      rw [e2] at e
      obtain ⟨x, h1, h2⟩ := R.sl i s e2
      rw [show σ[i]? = some (some v) from h] at h1
      cases h1
      cases s with
      | none => cases e
      | val d' =>
        cases e
        obtain ⟨v', e3, h3⟩ := h2
        cases e3
        exact .inl h3
      | own o =>
        cases e
        obtain ⟨a, e3, _, _, h3⟩ := h2
        cases e3
        exact .inr ⟨a, o, rfl, rfl, h3⟩
      | bor o =>
        cases e
        obtain ⟨a, e3, _, _, h3⟩ := h2
        cases e3
        exact .inr ⟨a, o, rfl, rfl, h3⟩
      | lck o =>
        cases e
        obtain ⟨a, u, e3, _, _, _, _, h3⟩ := h2
        cases e3
        exact .inr ⟨a, o, rfl, rfl, h3⟩
theorem DRep.rep (e : Same G H) (h : DRep K G H v d) : Rep K H v d := by
  rcases h with h | ⟨a, o, rfl, rfl, h⟩
  · exact h.mono e
  · obtain ⟨u, hu, r⟩ := h.rep
    exact r H e hu
theorem DRep.non (h : DRep K G H v .non) : v = .non := by
  rcases h with h | ⟨a, o, rfl, e, _⟩
  · cases h; rfl
  · cases o <;> cases e
theorem DRep.bl {b : Bool} (h : DRep K G H v (.bl b)) : v = .bl b := by
  rcases h with h | ⟨a, o, rfl, e, _⟩
  · cases h; rfl
  · cases o <;> cases e
theorem DRep.int {i : Int} (h : DRep K G H v (.int i)) : v = .int i := by
  rcases h with h | ⟨a, o, rfl, e, _⟩
  · cases h; rfl
  · cases o <;> cases e
theorem DRep.str {z : Str} (h : DRep K G H v (.str z)) : v = .str z := by
  rcases h with h | ⟨a, o, rfl, e, _⟩
  · cases h; rfl
  · cases o <;> cases e
theorem DRep.tup {ds : List D} (e : Same G H) (h : DRep K G H v (.tup ds)) : ∃ a vs, v = .ref a ∧ SqT K G a vs ∧ SqT K H a vs ∧ RepA K G vs ds := by
  rcases h with h | ⟨a, o, rfl, e, _⟩
  · cases h with
    | tup h1 h2 => exact ⟨_, _, rfl, h1, smTup e h1, h2⟩
  · cases o <;> cases e
theorem DRep.lst {ds : List D} (e : Same G H) (h : DRep K G H v (.lst ds)) : ∃ a vs, v = .ref a ∧ H a = some (.lst vs) ∧ RepA K G vs ds := by
  rcases h with h | ⟨a, o, rfl, e2, h⟩
  · cases h with
    | lst h1 h2 => exact ⟨_, _, rfl, e _ _ h1, h2⟩
  · cases o with
    | lst ds' =>
      cases e2
      obtain ⟨vs, h1, h2⟩ := h
      exact ⟨a, vs, rfl, h1, h2⟩
    | ins C ks ds' => cases e2
theorem DRep.scr {ds : List D} (e : Same G H) (h : DRep K G H v (.scr ds)) : ∃ a vs, v = .ref a ∧ SqL K H a vs ∧ RepA K G vs ds := by
  rcases h with h | ⟨a, o, rfl, e2, h⟩
  · cases h with
    | scr h1 h2 => exact ⟨_, _, rfl, smLst e h1, h2⟩
  · cases o <;> cases e2
theorem DRep.ins {C : Addr} {ks : List Str} {ds : List D} (e : Same G H) (h : DRep K G H v (.ins C ks ds)) : ∃ a dx fs, v = .ref a ∧ H a = some (.ins C dx fs) ∧ fs.map (·.1) = ks ∧ RepA K G (fs.map (·.2)) ds := by
  rcases h with h | ⟨a, o, rfl, e2, h⟩
  · cases h with
    | ins h1 h2 h3 => exact ⟨_, _, _, rfl, e _ _ h1, h2, h3⟩
  · cases o with
    | lst ds' => cases e2
    | ins C' ks' ds' =>
      cases e2
      obtain ⟨dx, fs, h1, h2, h3⟩ := h
      exact ⟨a, dx, fs, rfl, h1, h2, h3⟩
end
abbrev Rel (β α : Type) := Fm → Hp → Hp → L2.St → En → β → α → Prop
def Wants {α β : Type} (K : Fg) (E : XK) (rel : Rel β α) (F : Fm) (G : Hp) (σ : L2.St) (Q : β → Hp → Prop) : Res α → Prop
  | .ok a ρ' => ∀ b G' H', Rl K F G' H' σ ρ' → Same G G' → rel F G' H' σ ρ' b a → Q b H'
  | .err x ρ' => ∀ c od G' H', Rl K F G' H' σ ρ' → Same G G' → XRep K G' H' c od x → E c od H'
  | .stuck => False
def LG {α β : Type} (K : Fg) (E : XK) (rel : Rel β α) (t : L2.St → Hp → (β → Hp → Prop) → Prop) (T : En → Res α) : Prop :=
  ∀ (F : Fm) (G H : Hp) (σ : L2.St) (ρ : En) (Q : β → Hp → Prop), Rl K F G H σ ρ → Wants K E rel F G σ Q (T ρ) → t σ H Q
abbrev LE (K : Fg) (E : XK) (t : TE) (T : En → Res X) : Prop := LG K E (RepX K) t T
abbrev LA (K : Fg) (E : XK) (t : TA) (T : En → Res (List X)) : Prop := LG K E (RepXs K) t T
abbrev LT (K : Fg) (E : XK) (t : TT) (T : En → Res Bool) : Prop := LG K E (fun _ _ _ _ _ b a => b = a) t T
section
variable {α β γ δ : Type} {K : Fg} {E : XK} {F : Fm} {G G' H H' : Hp} {σ : L2.St} {ρ ρ' : En}
theorem Wants.mono {rel : Rel β α} {Q : β → Hp → Prop} {r : Res α} (e : Same G G') (h : Wants K E rel F G σ Q r) : Wants K E rel F G' σ Q r := by
  cases r with
  | ok a ρ' => exact fun b G2 H2 R s q => h b G2 H2 R (e.trans s) q
  | err x ρ' => exact fun c od G2 H2 R s q => h c od G2 H2 R (e.trans s) q
  | stuck => exact h
theorem Wants.bind {rel : Rel β α} {rel2 : Rel δ γ} {Q : δ → Hp → Prop} {Q1 : β → Hp → Prop} {r : Res α} {U : α → En → Res γ} (h : Wants K E rel2 F G σ Q (r.bind U))
    (k : ∀ b a G' H' ρ', Rl K F G' H' σ ρ' → Same G G' → rel F G' H' σ ρ' b a → Wants K E rel2 F G' σ Q (U a ρ') → Q1 b H') : Wants K E rel F G σ Q1 r := by
  cases r with
  | ok a ρ' => exact fun b G2 H2 R s q => k b a G2 H2 ρ' R s q (Wants.mono s h)
  | err x ρ' => exact h
  | stuck => exact h
theorem LG.bind {rel : Rel β α} {rel2 : Rel δ γ} {t : L2.St → Hp → (β → Hp → Prop) → Prop} {T : En → Res α} {k : β → L2.St → Hp → (δ → Hp → Prop) → Prop} {U : α → En → Res γ} (h : LG K E rel t T)
    (h2 : ∀ F G H σ ρ b a Q, Rl K F G H σ ρ → rel F G H σ ρ b a → Wants K E rel2 F G σ Q (U a ρ) → k b σ H Q) : LG K E rel2 (fun σ H Q => t σ H fun b H1 => k b σ H1 Q) (fun ρ => (T ρ).bind U) := by
  intro F G H σ ρ Q R w
  exact h F G H σ ρ _ R (w.bind fun b a G' H' ρ' R' s q w' => h2 F G' H' σ ρ' b a Q R' q w')
/-- what ends here -/
theorem Wants.lift {rel : Rel β α} {Q : β → Hp → Prop} {o : Option α} (h : Wants K E rel F G σ Q (lift o ρ)) : ∃ a, o = some a ∧ ∀ b G' H', Rl K F G' H' σ ρ → Same G G' → rel F G' H' σ ρ b a → Q b H' := by
  cases o with
  | none => exact h.elim
  | some a => exact ⟨a, rfl, h⟩
end
def dVar (i : Nat) : En → Res X := fun ρ => match ρ[i]? with
  | some (.val d) => .ok (.val d) ρ
  | some (.own _) | some (.bor _) | some (.lck _) => .ok (.own i) ρ
  | _ => .stuck
def dC (d : D) : En → Res X := fun ρ => .ok (.val d) ρ
section
variable {K : Fg} {E : XK}
theorem L_var {i : Nat} : LE K E (tVar i) (dVar i) := by
  intro F G H σ ρ Q R w
  unfold dVar at w
  cases e : ρ[i]? with
  | none => rw [e] at w; exact w.elim
  | some s =>
    rw [e] at w
    cases s with
    | none => exact w.elim
    | val d =>
      obtain ⟨v, h1, h2⟩ := R.val e
      exact ⟨v, h1, w v G H R (Same.refl G) h2⟩
    | own o =>
      obtain ⟨a, h1, _⟩ := R.own e
      exact ⟨_, h1, w _ G H R (Same.refl G) h1⟩
    | bor o =>
      obtain ⟨a, h1, _⟩ := R.bor e
      exact ⟨_, h1, w _ G H R (Same.refl G) h1⟩
    | lck o =>
      obtain ⟨x, h1, a, u, rfl, _⟩ := R.sl i _ e
      exact ⟨_, h1, w _ G H R (Same.refl G) h1⟩
theorem L_c {v : V} {d : D} (h : ∀ G, Rep K G v d) : LE K E (tC v) (dC d) := fun F G H σ ρ Q R w => w v G H R (Same.refl G) (h G)
theorem L_int {i : Int} : LE K E (tC (.int i)) (dC (.int i)) := L_c fun _ => .int i
theorem L_bl {b : Bool} : LE K E (tC (.bl b)) (dC (.bl b)) := L_c fun _ => .bl b
theorem L_str {z : Str} : LE K E (tC (.str z)) (dC (.str z)) := L_c fun _ => .str z
theorem L_non : LE K E (tC .non) (dC .non) := L_c fun _ => .non
end
abbrev D2 := D → D → Option X
def OpS (K : Fg) (r : R2) (op : D2) : Prop := ∀ (F : Fm) (G H : Hp) (σ : L2.St) (ρ : En) (x y : V) (d e : D) (z : X) (Q : VK), Rl K F G H σ ρ → DRep K G H x d → DRep K G H y e → op d e = some z →
  (∀ v G' H', Rl K F G' H' σ ρ → Same G G' → RepX K F G' H' σ ρ v z → Q v H') → r x y H Q
@[simp] def ap2 (op : D2) (a b : X) (ρ : En) : Res X := match deref ρ a, deref ρ b with
  | some d, some e => lift (op d e) ρ
  | _, _ => .stuck
def dBin (op : D2) (A B : En → Res X) : En → Res X := fun ρ => (A ρ).bind fun a ρ1 => (B ρ1).bind fun b ρ2 => ap2 op a.settle b ρ2
section
variable {K : Fg} {E : XK} {r r' : R2} {op op' : D2} {ta tb tc : TE} {A B C : En → Res X}
theorem ap2_run {F : Fm} {G H : Hp} {σ : L2.St} {ρ : En} {Q : VK} {x y : V} {a b : X} (hr : OpS K r op) (R : Rl K F G H σ ρ) (hx : RepX K F G H σ ρ x a) (hy : RepX K F G H σ ρ y b) (w : Wants K E (RepX K) F G σ Q (ap2 op a b ρ)) : r x y H Q := by
  unfold ap2 at w
  cases e1 : deref ρ a with
  | none => rw [e1] at w; exact w.elim
  | some d =>
    cases e2 : deref ρ b with
    | none => rw [e1, e2] at w; exact w.elim
    | some e =>
      rw [e1, e2] at w
      obtain ⟨z, ez, q⟩ := w.lift
      exact hr F G H σ ρ x y d e z Q R (R.deref hx e1) (R.deref hy e2) ez q
theorem L_bin (hr : OpS K r op) (ha : LE K E ta A) (hb : LE K E tb B) : LE K E (tOp r ta tb) (dBin op A B) := by
  refine LG.bind (k := fun x σ H Q => tb σ H fun y H2 => r x y H2 Q) ha fun F G H σ ρ x a Q R hx w => ?_
  obtain ⟨G1, R1, s1, hx1⟩ := R.settle hx
  refine hb F G1 H σ ρ _ R1 ((w.mono s1).bind fun y b G2 H2 ρ2 R2 s2 hy w2 => ?_)
  exact ap2_run hr R2 (hx1.keep settle_no s2) hy w2
@[simp] def opI (g : Int → Int → D) : D2
  | .int i, .int j => some (.val (g i j))
  | _, _ => none
open Classical in
@[simp] noncomputable def opIC (C : Int → Int → Prop) (g : Int → Int → D) : D2
  | .int i, .int j => if C i j then some (.val (g i j)) else none
  | _, _ => none
theorem S_I0 {g : Int → Int → V} {g' : Int → Int → D} (hg : ∀ i j G, Rep K G (g i j) (g' i j)) : OpS K (rI0 g) (opI g') := by
  intro F G H σ ρ x y d e z Q R hx hy ez q
  cases d <;> cases e <;> first | cases ez | skip
  exact ⟨_, _, hx.int, hy.int, q _ G H R (Same.refl G) (hg _ _ G)⟩
theorem S_IC {C : Int → Int → Prop} {g : Int → Int → V} {g' : Int → Int → D} (hg : ∀ i j G, Rep K G (g i j) (g' i j)) : OpS K (rI C g) (opIC C g') := by
  intro F G H σ ρ x y d e z Q R hx hy ez q
  cases d <;> cases e <;> first | cases ez | skip
  simp only [opIC] at ez
  split at ez
  · rename_i hc
    cases ez
    exact ⟨_, _, hx.int, hy.int, hc, q _ G H R (Same.refl G) (hg _ _ G)⟩
  · cases ez
end
end DL
set_option Elab.async false
set_option linter.all false
set_option maxRecDepth 100000
set_option maxHeartbeats 2000000
namespace DL
open PySem PySem.Spec PyProof.Rows L2 DD
mutual
def D.py : D → Option PyData
  | .non => some .none
  | .bl b => some (.bool b)
  | .int i => some (.int i)
  | .str x => some (.str x)
  | .tup ds => (D.pyA ds).map PyData.tuple
  | .lst ds => (D.pyA ds).map PyData.list
  | .scr ds => (D.pyA ds).map PyData.list
  | .ins .. | .cls _ => none
def D.pyA : List D → Option (List PyData)
  | [] => some []
  | d :: ds => match D.py d, D.pyA ds with
    | some p, some ps => some (p :: ps)
    | _, _ => none
end
theorem pyA_cons {d : D} {ds : List D} {ps : List PyData} (h : D.pyA (d :: ds) = some ps) : ∃ p r, ps = p :: r ∧ d.py = some p ∧ D.pyA ds = some r := by
  simp only [D.pyA] at h
  cases e1 : d.py with
  | none => rw [e1] at h; cases h
  | some p =>
    cases e2 : D.pyA ds with
    | none => rw [e1, e2] at h; cases h
    | some r => rw [e1, e2] at h; cases h; exact ⟨p, r, rfl, rfl, rfl⟩
section
variable {K : Fg} {H : Hp}
mutual
theorem Rep.dp : ∀ {v : V} {d : D} {p : PyData}, Rep K H v d → d.py = some p → Dp K H v p
  | _, _, _, .non, e => by cases e; exact .non
  | _, _, _, .bl b, e => by cases e; exact .bl b
  | _, _, _, .int i, e => by cases e; exact .int i
  | _, _, _, .str x, e => by cases e; exact .str x
  | _, .tup ds, _, .tup h r, e => by
    simp only [D.py] at e
    cases e2 : D.pyA ds with
    | none => rw [e2] at e; cases e
    | some ps => rw [e2] at e; cases e; exact .tup h (RepA.dp r e2)
  | _, .lst ds, _, .lst h r, e => by
    simp only [D.py] at e
    cases e2 : D.pyA ds with
    | none => rw [e2] at e; cases e
    | some ps => rw [e2] at e; cases e; exact .lst (.inl (.inl h)) (RepA.dp r e2)
  | _, .scr ds, _, .scr h r, e => by
    simp only [D.py] at e
    cases e2 : D.pyA ds with
    | none => rw [e2] at e; cases e
    | some ps => rw [e2] at e; cases e; exact .lst h (RepA.dp r e2)
  | _, _, _, .ins _ _ _, e => by cases e
  | _, _, _, .cls _, e => by cases e
theorem RepA.dp : ∀ {vs : List V} {ds : List D} {ps : List PyData}, RepA K H vs ds → D.pyA ds = some ps → DpAll K H vs ps
  | _, _, _, .nil, e => by cases e; exact .nil
  | _, d :: ds, _, .cons h r, e => by
    obtain ⟨p, r', rfl, e1, e2⟩ := pyA_cons e
    exact .cons (Rep.dp h e1) (RepA.dp r e2)
end
end
section
variable {K : Fg}
theorem S_add : OpS K (rI0 fun i j => .int (i + j)) (opI fun i j => .int (i + j)) := S_I0 fun _ _ _ => .int _
theorem S_sub : OpS K (rI0 fun i j => .int (i - j)) (opI fun i j => .int (i - j)) := S_I0 fun _ _ _ => .int _
theorem S_mul : OpS K (rI CMul fun i j => .int (i * j)) (opIC CMul fun i j => .int (i * j)) := S_IC fun _ _ _ => .int _
theorem S_fdiv : OpS K (rI CDiv fun i j => .int (i / j)) (opIC CDiv fun i j => .int (i / j)) := S_IC fun _ _ _ => .int _
theorem S_mod : OpS K (rI (fun _ j => 0 < j) fun i j => .int (i % j)) (opIC (fun _ j => 0 < j) fun i j => .int (i % j)) := S_IC fun _ _ _ => .int _
theorem S_pow : OpS K (rI CPow fun i j => .int (i ^ j.toNat)) (opIC CPow fun i j => .int (i ^ j.toNat)) := S_IC fun _ _ _ => .int _
theorem S_lt : OpS K (rI0 fun i j => .bl (decide (i < j))) (opI fun i j => .bl (decide (i < j))) := S_I0 fun _ _ _ => .bl _
theorem S_le : OpS K (rI0 fun i j => .bl (decide (i ≤ j))) (opI fun i j => .bl (decide (i ≤ j))) := S_I0 fun _ _ _ => .bl _
theorem S_gt : OpS K (rI0 fun i j => .bl (decide (j < i))) (opI fun i j => .bl (decide (j < i))) := S_I0 fun _ _ _ => .bl _
theorem S_ge : OpS K (rI0 fun i j => .bl (decide (j ≤ i))) (opI fun i j => .bl (decide (j ≤ i))) := S_I0 fun _ _ _ => .bl _
def rAddS : R2 := fun x y H Q => ∃ i j, x = .str i ∧ y = .str j ∧ i.length + j.length ≤ sizeLine ∧ Q (.str (i ++ j)) H
def opAddS : D2
  | .str i, .str j => if i.length + j.length ≤ sizeLine then some (.val (.str (i ++ j))) else none
  | _, _ => none
theorem S_addS : OpS K rAddS opAddS := by
  intro F G H σ ρ x y d e z Q R hx hy ez q
  cases d <;> cases e <;> first | cases ez | skip
  simp only [opAddS] at ez
  split at ez
  · rename_i hc
    cases ez
    exact ⟨_, _, hx.str, hy.str, hc, q _ G H R (Same.refl G) (.str _)⟩
  · cases ez
def opAddT : D2
  | .tup ds, .tup es => if ds.length + es.length ≤ sizeLine then some (.val (.tup (ds ++ es))) else none
  | _, _ => none
theorem S_addT : OpS K (rCatA K) opAddT := by
  intro F G H σ ρ x y d e z Q R hx hy ez q
  cases d <;> cases e <;> first | cases ez | skip
  rename_i ds es
  simp only [opAddT] at ez
  split at ez
  · rename_i hc
    cases ez
    obtain ⟨a, xs, rfl, g1, h1, r1⟩ := hx.tup R.gh
    obtain ⟨b, ys, rfl, g2, h2, r2⟩ := hy.tup R.gh
    refine ⟨a, b, xs, ys, rfl, rfl, h1, h2, by rw [r1.len, r2.len]; exact hc, fun e => ?_, fun _ e => ?_, fun _ _ p np => ?_⟩
    · subst e
      cases r1
      exact q _ G H R (Same.refl G) (.tup g2 r2)
    · subst e
      cases r2
      rw [List.append_nil] at q
      exact q _ G H R (Same.refl G) (.tup g1 r1)
    · have gp := R.freshG np
      exact q _ _ _ (R.add np) (smNew gp) (.tup (.inl (.inl upd_same)) ((r1.app r2).mono (smNew gp)))
  · cases ez
/-- a new list -/
theorem newL {F : Fm} {G H : Hp} {σ : L2.St} {ρ : En} {p : Addr} {vs : List V} {ds : List D} (R : Rl K F G H σ ρ) (np : H p = none) (r : RepA K G vs ds) : Rl K F G (upd H p (.lst vs)) σ ρ ∧ RepX K F G (upd H p (.lst vs)) σ ρ (.ref p) (.new (.lst ds)) := by
  refine ⟨R.laid np, p, rfl, R.fresh np, R.freshG np, ⟨vs, upd_same, r⟩, fun j u hj z => ?_⟩
  obtain ⟨b, h1, _, _, h4⟩ := R.own hj
  rw [h1] at z
  cases z
  obtain ⟨u, e⟩ := h4.ex
  rw [np] at e
  cases e
theorem newT {F : Fm} {G H : Hp} {σ : L2.St} {ρ : En} {p : Addr} {vs : List V} {ds : List D} (R : Rl K F G H σ ρ) (np : H p = none) (r : RepA K G vs ds) : Rl K F (upd G p (.tup vs)) (upd H p (.tup vs)) σ ρ ∧ Same G (upd G p (.tup vs)) ∧ Rep K (upd G p (.tup vs)) (.ref p) (.tup ds) :=
  ⟨R.add np, smNew (R.freshG np), .tup (.inl (.inl upd_same)) (r.mono (smNew (R.freshG np)))⟩
def opAddL : D2
  | .lst ds, .lst es => if ds.length + es.length ≤ sizeLine then some (.new (.lst (ds ++ es))) else none
  | _, _ => none
theorem S_addL : OpS K rCat opAddL := by
  intro F G H σ ρ x y d e z Q R hx hy ez q
  cases d <;> cases e <;> first | cases ez | skip
  rename_i ds es
  simp only [opAddL] at ez
  split at ez
  · rename_i hc
    cases ez
    obtain ⟨a, xs, rfl, h1, r1⟩ := hx.lst R.gh
    obtain ⟨b, ys, rfl, h2, r2⟩ := hy.lst R.gh
    refine ⟨a, b, xs, ys, rfl, rfl, h1, h2, by rw [r1.len, r2.len]; exact hc, fun p np => ?_⟩
    obtain ⟨R', x'⟩ := newL R np (r1.app r2)
    exact q _ _ _ R' (Same.refl G) x'
  · cases ez
def rAdd4 (K : Fg) : R2 := fun x y H Q => rI0 (fun i j => .int (i + j)) x y H Q ∨ rAddS x y H Q ∨ rCatA K x y H Q ∨ rCat x y H Q
@[simp] def opAdd : D2
  | .int i, .int j => some (.val (.int (i + j)))
  | .str i, .str j => if i.length + j.length ≤ sizeLine then some (.val (.str (i ++ j))) else none
  | .tup ds, .tup es => if ds.length + es.length ≤ sizeLine then some (.val (.tup (ds ++ es))) else none
  | .lst ds, .lst es => if ds.length + es.length ≤ sizeLine then some (.new (.lst (ds ++ es))) else none
  | _, _ => none
theorem S_add4 : OpS K (rAdd4 K) opAdd := by
  intro F G H σ ρ x y d e z Q R hx hy ez q
  cases d <;> cases e <;> first | cases ez | skip
  · exact .inl (S_add F G H σ ρ x y _ _ _ Q R hx hy rfl q)
  · exact .inr (.inl (S_addS F G H σ ρ x y _ _ _ Q R hx hy ez q))
  · exact .inr (.inr (.inl (S_addT F G H σ ρ x y _ _ _ Q R hx hy ez q)))
  · exact .inr (.inr (.inr (S_addL F G H σ ρ x y _ _ _ Q R hx hy ez q)))
end
theorem OpRor {X : Cx} {f : Value → Value → Sem Value} {r r' : R2} (h : OpR X f r) (h' : OpR X f r') : OpR X f (fun x y H Q => r x y H Q ∨ r' x y H Q) := by
  intro pins s σ H x y v u Q I rx ry q
  rcases q with q | q
  · exact h pins s σ H x y v u Q I rx ry q
  · exact h' pins s σ H x y v u Q I rx ry q
theorem op_add4 {X : Cx} {K : Fg} (h : X.K = K := by rfl) : OpR X (binaryOp .Add) (rAdd4 K) := h ▸ OpRor op_add (OpRor op_add_str (OpRor op_catA op_cat))
section
variable {K : Fg}
/-- == -/
def eqB : D → D → Option Bool
  | .str x, .str y => some (decide (x = y))
  | .int x, .int y => some (decide (x = y))
  | .bl x, .bl y => some (decide (x = y))
  | .non, .non => some true
  | d, e => match d.py, e.py with
    | some p, some q => if SeqAt.shaped p = true ∧ SeqAt.shaped q = true then some (PyData.eqv p q) else none
    | _, _ => match d, e with
      | .lst ds, .lst es => if ds.length = es.length then none else some false
      | _, _ => none
@[simp] def opEq : D2 := fun d e => (eqB d e).map fun b => .val (.bl b)
@[simp] def opNe : D2 := fun d e => (eqB d e).map fun b => .val (.bl !b)
def rEqL (K : Fg) : R2 := fun x y H Q => ∃ a b xs ys, x = .ref a ∧ y = .ref b ∧ SqL K H a xs ∧ SqL K H b ys ∧ xs.length ≠ ys.length ∧ Q (.bl false) H
def rNeL (K : Fg) : R2 := fun x y H Q => ∃ a b xs ys, x = .ref a ∧ y = .ref b ∧ SqL K H a xs ∧ SqL K H b ys ∧ xs.length ≠ ys.length ∧ Q (.bl true) H
theorem isL_of {h : Heap} {a : Addr} {vs : Array Value} (p : PlainL h a vs) : h.IsList a vs := by
  obtain ⟨o, n, h1, h2, h3, h4⟩ := p
  exact ⟨o, h1, h2, n, h4⟩
theorem op_eqL {X : Cx} (hu : X.A.units + 64 < cLine) : OpR X (compareOp .Eq) (rEqL X.K) := by
  intro pins s σ H x y v u Q I rx ry h
  obtain ⟨a, b, xs, ys, rfl, rfl, ha, hb, hn, q⟩ := h
  cases (show v = Value.ref a from rx)
  cases (show u = Value.ref b from ry)
  obtain ⟨is, ra, pa, _⟩ := I.list ha
  obtain ⟨js, rb, pb, _⟩ := I.list hb
  have l1 := ra.length
  have l2 := rb.length
  exact SeqAt.eq_list_lengthsAt (isL_of pa) (isL_of pb) (by simp; omega) (by omega) ⟨.bl false, H, I, rfl, q⟩
theorem op_neL {X : Cx} (hu : X.A.units + 64 < cLine) : OpR X (compareOp .NotEq) (rNeL X.K) := by
  intro pins s σ H x y v u Q I rx ry h
  obtain ⟨a, b, xs, ys, rfl, rfl, ha, hb, hn, q⟩ := h
  cases (show v = Value.ref a from rx)
  cases (show u = Value.ref b from ry)
  obtain ⟨is, ra, pa, _⟩ := I.list ha
  obtain ⟨js, rb, pb, _⟩ := I.list hb
  have l1 := ra.length
  have l2 := rb.length
  exact SeqAt.RcNeAt.lists_lengths (isL_of pa) (isL_of pb) (by simp; omega) (by omega) _ _ _ _ ⟨.bl true, H, I, rfl, q⟩
def rEq2 (K : Fg) : R2 := fun x y H Q => rEq x y H Q ∨ rEqD K x y H Q ∨ rEqL K x y H Q
def rNe2 (K : Fg) : R2 := fun x y H Q => rNe x y H Q ∨ rNeD K x y H Q ∨ rNeL K x y H Q
theorem S_eqB {F : Fm} {G H : Hp} {σ : L2.St} {ρ : En} {x y : V} {d e : D} {b : Bool} (R : Rl K F G H σ ρ) (hx : DRep K G H x d) (hy : DRep K G H y e) (ez : eqB d e = some b) :
    (scal x y = true ∧ decide (x = y) = b) ∨ (∃ p q, Dp K H x p ∧ Dp K H y q ∧ SeqAt.shaped p = true ∧ SeqAt.shaped q = true ∧ PyData.eqv p q = b) ∨ ∃ a b' xs ys, x = .ref a ∧ y = .ref b' ∧ SqL K H a xs ∧ SqL K H b' ys ∧ xs.length ≠ ys.length ∧ b = false := by
  unfold eqB at ez
  split at ez
  · cases ez
    obtain rfl := hx.str
    obtain rfl := hy.str
    exact .inl ⟨rfl, by simp⟩
  · cases ez
    obtain rfl := hx.int
    obtain rfl := hy.int
    exact .inl ⟨rfl, by simp⟩
  · cases ez
    obtain rfl := hx.bl
    obtain rfl := hy.bl
    exact .inl ⟨rfl, by simp⟩
  · cases ez
    obtain rfl := hx.non
    obtain rfl := hy.non
    exact .inl ⟨rfl, rfl⟩
  · split at ez
    · rename_i p q' e1 e2
      split at ez
      · rename_i hc
        cases ez
        exact .inr (.inl ⟨p, q', (hx.rep R.gh).dp e1, (hy.rep R.gh).dp e2, hc.1, hc.2, rfl⟩)
      · cases ez
    · split at ez
      · split at ez
        · cases ez
        · rename_i hl
          cases ez
          obtain ⟨a, xs, rfl, ha, ra⟩ := hx.lst R.gh
          obtain ⟨b', ys, rfl, hb, rb⟩ := hy.lst R.gh
          exact .inr (.inr ⟨a, b', xs, ys, rfl, rfl, .inl (.inl ha), .inl (.inl hb), by rw [ra.len, rb.len]; exact hl, rfl⟩)
      · cases ez
theorem S_eq : OpS K (rEq2 K) opEq := by
  intro F G H σ ρ x y d e z Q R hx hy ez q
  simp only [opEq, Option.map_eq_some_iff] at ez
  obtain ⟨b, eb, rfl⟩ := ez
  rcases S_eqB R hx hy eb with ⟨h1, rfl⟩ | ⟨p, q', h1, h2, h3, h4, rfl⟩ | ⟨a, b', xs, ys, h1, h2, h3, h4, h5, rfl⟩
  · exact .inl ⟨h1, q _ G H R (Same.refl G) (.bl _)⟩
  · exact .inr (.inl ⟨p, q', h1, h2, h3, h4, q _ G H R (Same.refl G) (.bl _)⟩)
  · exact .inr (.inr ⟨a, b', xs, ys, h1, h2, h3, h4, h5, q _ G H R (Same.refl G) (.bl _)⟩)
theorem S_ne : OpS K (rNe2 K) opNe := by
  intro F G H σ ρ x y d e z Q R hx hy ez q
  simp only [opNe, Option.map_eq_some_iff] at ez
  obtain ⟨b, eb, rfl⟩ := ez
  rcases S_eqB R hx hy eb with ⟨h1, rfl⟩ | ⟨p, q', h1, h2, h3, h4, rfl⟩ | ⟨a, b', xs, ys, h1, h2, h3, h4, h5, rfl⟩
  · exact .inl ⟨h1, q _ G H R (Same.refl G) (.bl _)⟩
  · exact .inr (.inl ⟨p, q', h1, h2, h3, h4, q _ G H R (Same.refl G) (.bl _)⟩)
  · exact .inr (.inr ⟨a, b', xs, ys, h1, h2, h3, h4, h5, q _ G H R (Same.refl G) (.bl _)⟩)
def opLtD : D2 := fun d e => match d.py, e.py with
  | some p, some q => if PySem.W.alike p q = true ∧ p.depth ≤ 60 then some (.val (.bl (PySem.W.dataLt p q))) else none
  | _, _ => none
def rLt2 (K : Fg) : R2 := fun x y H Q => rI0 (fun i j => .bl (decide (i < j))) x y H Q ∨ rLtD K x y H Q
@[simp] def opLt : D2
  | .int i, .int j => some (.val (.bl (decide (i < j))))
  | .tup ds, .tup es => opLtD (.tup ds) (.tup es)
  | .str x, .str y => opLtD (.str x) (.str y)
  | _, _ => none
theorem S_ltD {ds es : D} (hn : ds.py ≠ some .none) {F : Fm} {G H : Hp} {σ : L2.St} {ρ : En} {x y : V} {z : X} {Q : VK} (R : Rl K F G H σ ρ) (hx : DRep K G H x ds) (hy : DRep K G H y es) (ez : opLtD ds es = some z)
    (q : ∀ v G' H', Rl K F G' H' σ ρ → Same G G' → RepX K F G' H' σ ρ v z → Q v H') : rLtD K x y H Q := by
  simp only [opLtD] at ez
  split at ez
  · rename_i p q' e1 e2
    split at ez
    · rename_i hc
      cases ez
      exact ⟨p, q', (hx.rep R.gh).dp e1, (hy.rep R.gh).dp e2, hc.1, fun z => hn (by rw [e1, z]), by omega, q _ G H R (Same.refl G) (.bl _)⟩
    · cases ez
  · cases ez
theorem S_lt2 : OpS K (rLt2 K) opLt := by
  intro F G H σ ρ x y d e z Q R hx hy ez q
  cases d <;> cases e <;> first | (cases ez; done) | skip
  · exact .inl (S_lt F G H σ ρ x y _ _ _ Q R hx hy ez q)
  · exact .inr (S_ltD (fun z => by cases z) R hx hy ez q)
  · refine .inr (S_ltD (fun z => ?_) R hx hy ez q)
    simp only [D.py] at z
    rename_i ds _
    cases e2 : D.pyA ds with
    | none => rw [e2] at z; cases z
    | some ps => rw [e2] at z; cases z
end
theorem op_eq2 {X : Cx} {K : Fg} (hu : X.A.units + 64 < cLine) (h : X.K = K := by rfl) : OpR X (compareOp .Eq) (rEq2 K) := h ▸ OpRor op_eq (OpRor (op_eqD hu) (op_eqL hu))
theorem op_ne2 {X : Cx} {K : Fg} (hu : X.A.units + 64 < cLine) (h : X.K = K := by rfl) : OpR X (compareOp .NotEq) (rNe2 K) := h ▸ OpRor op_ne (OpRor (op_neD hu) (op_neL hu))
theorem op_lt2 {X : Cx} {K : Fg} (hu : X.A.units + 64 < cLine) (h : X.K = K := by rfl) : OpR X (compareOp .Lt) (rLt2 K) := h ▸ OpRor op_lt (op_ltD hu)
@[simp] def D.flat : D → Bool
  | .non | .bl _ | .int _ | .str _ => true
  | _ => false
@[simp] def D.items : D → Option (List D)
  | .tup ds | .lst ds | .scr ds => some ds
  | _ => none
def pyEq (d e : D) : Bool := match d.py, e.py with
  | some p, some q => PyData.eqv p q
  | _, _ => false
def inD (d : D) (es : List D) : Bool := es.any fun e => pyEq e d
section
variable {K : Fg} {G : Hp}
theorem flat_rep {v : V} {d : D} (h : Rep K G v d) (f : d.flat = true) : flatV v = true := by
  cases h <;> first | rfl | cases f
theorem flat_eq {v w : V} {d e : D} (h : Rep K G v d) (h' : Rep K G w e) (f : d.flat = true) (f' : e.flat = true) : eqV v w = pyEq d e := by
  cases h <;> first | (cases f; done) | skip
  all_goals (cases h' <;> first | (cases f'; done) | rfl)
theorem flat_all : ∀ {vs : List V} {ds : List D}, RepA K G vs ds → ds.all D.flat = true → vs.all flatV = true
  | _, _, .nil, _ => rfl
  | _, _, .cons h r, f => by
    rw [List.all_cons, Bool.and_eq_true] at f
    rw [List.all_cons, flat_rep h f.1, flat_all r f.2]
    rfl
theorem flat_in {w : V} {e : D} (h' : Rep K G w e) (f' : e.flat = true) : ∀ {vs : List V} {ds : List D}, RepA K G vs ds → ds.all D.flat = true → inV w vs = inD e ds
  | _, _, .nil, _ => rfl
  | _, _, .cons h r, f => by
    rw [List.all_cons, Bool.and_eq_true] at f
    have := flat_in h' f' r f.2
    unfold inV inD at this ⊢
    rw [List.any_cons, List.any_cons, flat_eq h h' f.1 f', this]
end
def opInB (d e : D) : Option Bool := match e.items with
  | some es => if d.flat = true ∧ es.all D.flat = true then some (inD d es) else
    match e, d.py, D.pyA es with
    | .lst _, some p, some ps => if SeqAt.shaped p = true ∧ SeqAt.shaped (.list ps) = true then some (ps.any fun z => PyData.eqv z p) else none
    | .tup _, some p, some ps => if SeqAt.shaped p = true ∧ SeqAt.shaped (.tuple ps) = true then some (ps.any fun z => PyData.eqv z p) else none
    | _, _, _ => none
  | none => none
@[simp] def opIn : D2 := fun d e => (opInB d e).map fun b => .val (.bl b)
@[simp] def opNotIn : D2 := fun d e => (opInB d e).map fun b => .val (.bl !b)
def rInDT (K : Fg) : R2 := fun x y H Q => ∃ d ds, Dp K H x d ∧ Dp K H y (.tuple ds) ∧ SeqAt.shaped d = true ∧ SeqAt.shaped (.tuple ds) = true ∧ Q (.bl (ds.any fun z => PyData.eqv z d)) H
theorem op_inDT {X : Cx} (hu : X.A.units + 65 < cLine) : OpR X (compareOp .In) (rInDT X.K) := by
  intro pins s σ H x y v u Q I rx ry h
  obtain ⟨d, ds, hd, he, sd, se, q⟩ := h
  obtain ⟨as, r1⟩ := Dp.reads I d x v hd rx
  obtain ⟨bs, r2⟩ := Dp.reads I (.tuple ds) y u he ry
  exact SeqAt.in_tuple_reads r2 r1 (SeqAt.canLay_of_shaped se) (SeqAt.canLay_of_shaped sd) (room_in_shaped sd hu) ⟨.bl _, H, I, rfl, q⟩
def rIn2 (K : Fg) : R2 := fun x y H Q => rIn K false x y H Q ∨ rInD K x y H Q ∨ rInDT K x y H Q
section
variable {K : Fg}
theorem S_inB {F : Fm} {G H : Hp} {σ : L2.St} {ρ : En} {x y : V} {d e : D} {b : Bool} (R : Rl K F G H σ ρ) (hx : DRep K G H x d) (hy : DRep K G H y e) (ez : opInB d e = some b) :
    (∃ p xs, y = .ref p ∧ (SqL K H p xs ∨ SqT K H p xs) ∧ flatV x = true ∧ xs.all flatV = true ∧ inV x xs = b) ∨ (∃ p ps, Dp K H x p ∧ Dp K H y (.list ps) ∧ SeqAt.shaped p = true ∧ SeqAt.shaped (.list ps) = true ∧ (ps.any fun z => PyData.eqv z p) = b) ∨ ∃ p ps, Dp K H x p ∧ Dp K H y (.tuple ps) ∧ SeqAt.shaped p = true ∧ SeqAt.shaped (.tuple ps) = true ∧ (ps.any fun z => PyData.eqv z p) = b := by
  have hx' := hx.rep R.gh
  simp only [opInB] at ez
  split at ez
  · rename_i es he
    split at ez
    · rename_i hc
      cases ez
      left
      cases e <;> simp only [D.items] at he <;> cases he
      · obtain ⟨a, vs, rfl, g, h, r⟩ := hy.tup R.gh
        exact ⟨a, vs, rfl, .inr h, flat_rep hx' hc.1, flat_all r hc.2, flat_in hx' hc.1 (r.mono R.gh) hc.2⟩
      · obtain ⟨a, vs, rfl, h, r⟩ := hy.lst R.gh
        exact ⟨a, vs, rfl, .inl (.inl (.inl h)), flat_rep hx' hc.1, flat_all r hc.2, flat_in hx' hc.1 (r.mono R.gh) hc.2⟩
      · obtain ⟨a, vs, rfl, h, r⟩ := hy.scr R.gh
        exact ⟨a, vs, rfl, .inl h, flat_rep hx' hc.1, flat_all r hc.2, flat_in hx' hc.1 (r.mono R.gh) hc.2⟩
    · right
      split at ez
      · rename_i ds' p ps e1 e2
        split at ez
        · rename_i hc
          injection ez with ez
          subst ez
          obtain rfl : ds' = es := Option.some.inj he
          have e3 : (D.lst ds').py = some (.list ps) := by
            show (D.pyA ds').map PyData.list = _
            rw [e2]
            rfl
          exact .inl ⟨p, ps, hx'.dp e1, (hy.rep R.gh).dp e3, hc.1, hc.2, rfl⟩
        · cases ez
      · rename_i ds' p ps e1 e2
        split at ez
        · rename_i hc
          injection ez with ez
          subst ez
          obtain rfl : ds' = es := Option.some.inj he
          have e3 : (D.tup ds').py = some (.tuple ps) := by
            show (D.pyA ds').map PyData.tuple = _
            rw [e2]
            rfl
          exact .inr ⟨p, ps, hx'.dp e1, (hy.rep R.gh).dp e3, hc.1, hc.2, rfl⟩
        · cases ez
      · cases ez
  · cases ez
theorem S_in : OpS K (rIn2 K) opIn := by
  intro F G H σ ρ x y d e z Q R hx hy ez q
  simp only [opIn, Option.map_eq_some_iff] at ez
  obtain ⟨b, eb, rfl⟩ := ez
  rcases S_inB R hx hy eb with ⟨p, xs, e1, e2, e3, e4, rfl⟩ | ⟨p, ps, e1, e2, e3, e4, rfl⟩ | ⟨p, ps, e1, e2, e3, e4, rfl⟩
  · exact .inl ⟨p, xs, e1, e2, e3, e4, q _ G H R (Same.refl G) (.bl _)⟩
  · exact .inr (.inl ⟨p, ps, e1, e2, e3, e4, q _ G H R (Same.refl G) (.bl _)⟩)
  · exact .inr (.inr ⟨p, ps, e1, e2, e3, e4, q _ G H R (Same.refl G) (.bl _)⟩)
@[simp] def opIsB : D2
  | .bl a, .bl b => some (.val (.bl (decide (a = b))))
  | _, _ => none
@[simp] def opNotB : D2
  | .bl a, .bl b => some (.val (.bl (!decide (a = b))))
  | _, _ => none
theorem S_isB : OpS K rIsB opIsB := by
  intro F G H σ ρ x y d e z Q R hx hy ez q
  cases d <;> cases e <;> first | cases ez | skip
  exact ⟨_, _, hx.bl, hy.bl, q _ G H R (Same.refl G) (.bl _)⟩
theorem S_notB : OpS K rNotB opNotB := by
  intro F G H σ ρ x y d e z Q R hx hy ez q
  cases d <;> cases e <;> first | cases ez | skip
  exact ⟨_, _, hx.bl, hy.bl, q _ G H R (Same.refl G) (.bl _)⟩
end
theorem op_in2 {X : Cx} {K : Fg} (hu : X.A.units + 65 < cLine) (h : X.K = K := by rfl) : OpR X (compareOp .In) (rIn2 K) := h ▸ OpRor op_in_seq (OpRor (op_inD hu) (op_inDT hu))
@[simp] def D.isNon : D → Bool
  | .non => true
  | _ => false
def dIsN (A : En → Res X) : En → Res X := fun ρ => (A ρ).bind fun a ρ1 => match deref ρ1 a with
  | some d => .ok (.val (.bl d.isNon)) ρ1
  | none => .stuck
def dNotN (A : En → Res X) : En → Res X := fun ρ => (A ρ).bind fun a ρ1 => match deref ρ1 a with
  | some d => .ok (.val (.bl !d.isNon)) ρ1
  | none => .stuck
section
variable {K : Fg} {E : XK} {ta tb tc : TE} {A B C : En → Res X}
theorem isNon_of {G H : Hp} {v : V} {d : D} (h : DRep K G H v d) : decide (v = .non) = d.isNon := by
  rcases h with h | ⟨a, o, rfl, rfl, _⟩
  · cases h <;> rfl
  · cases o <;> rfl
theorem L_notN (ha : LE K E ta A) : LE K E (tNotN ta) (dNotN A) := by
  refine LG.bind (k := fun (x : V) σ H (Q : VK) => Q (.bl (!decide (x = V.non))) H) ha fun F G H σ ρ x a Q R hx w => ?_
  cases e : deref ρ a with
  | none => rw [e] at w; exact w.elim
  | some d =>
    rw [e] at w
    rw [isNon_of (R.deref hx e)]
    exact w _ G H R (Same.refl G) (.bl _)
@[simp] def asB (ρ : En) (a : X) : Option Bool := match deref ρ a with
  | some (.bl b) => some b
  | _ => none
theorem Rl.asB {F : Fm} {G H : Hp} {σ : L2.St} {ρ : En} {v : V} {a : X} {b : Bool} (R : Rl K F G H σ ρ) (hx : RepX K F G H σ ρ v a) (e : asB ρ a = some b) : v = .bl b := by
  unfold DL.asB at e
  cases e2 : DL.deref ρ a with
  | none => rw [e2] at e; cases e
  | some d =>
    rw [e2] at e
    cases d <;> cases e
    exact (R.deref hx e2).bl
def dTest (A : En → Res X) : En → Res Bool := fun ρ => (A ρ).bind fun a ρ1 => lift (asB ρ1 a) ρ1
theorem L_test (ha : LE K E ta A) : LT K E (fun σ H Q => ta σ H fun x H' => ∃ k, x = .bl k ∧ Q k H') (dTest A) := by
  refine LG.bind (k := fun x σ H Q => ∃ k, x = .bl k ∧ Q k H) ha fun F G H σ ρ x a Q R hx w => ?_
  obtain ⟨b, e, q⟩ := w.lift
  exact ⟨b, R.asB hx e, q _ G H R (Same.refl G) rfl⟩
def dNot (A : En → Res X) : En → Res X := fun ρ => (A ρ).bind fun a ρ1 => lift ((asB ρ1 a).map fun b => X.val (.bl !b)) ρ1
theorem L_not (ha : LE K E ta A) : LE K E (tNotV ta) (dNot A) := by
  refine LG.bind (k := fun (x : V) σ H (Q : VK) => ∃ c, x = .bl c ∧ Q (.bl (!c)) H) ha fun F G H σ ρ x a Q R hx w => ?_
  obtain ⟨b, e, q⟩ := w.lift
  rw [Option.map_eq_some_iff] at e
  obtain ⟨c, e, rfl⟩ := e
  exact ⟨c, R.asB hx e, q _ G H R (Same.refl G) (.bl _)⟩
def dAnd (A B : En → Res X) : En → Res X := fun ρ => (A ρ).bind fun a ρ1 => match asB ρ1 a with
  | some true => B ρ1
  | some false => .ok (.val (.bl false)) ρ1
  | none => .stuck
def dOr (A B : En → Res X) : En → Res X := fun ρ => (A ρ).bind fun a ρ1 => match asB ρ1 a with
  | some false => B ρ1
  | some true => .ok (.val (.bl true)) ρ1
  | none => .stuck
theorem L_and (ha : LE K E ta A) (hb : LE K E tb B) : LE K E (tAndV ta tb) (dAnd A B) := by
  refine LG.bind (k := fun x σ H Q => ∃ c, x = .bl c ∧ if c = true then tb σ H Q else Q (.bl false) H) ha fun F G H σ ρ x a Q R hx w => ?_
  cases e : asB ρ a with
  | none => rw [e] at w; exact w.elim
  | some c =>
    rw [e] at w
    refine ⟨c, R.asB hx e, ?_⟩
    cases c with
    | true => exact iteT (hb F G H σ ρ Q R w)
    | false => exact iteF (w _ G H R (Same.refl G) (.bl _))
variable {t u : TT} {T U : En → Res Bool}
def tnd (T U : En → Res Bool) : En → Res Bool := fun ρ => (T ρ).bind fun a ρ1 => match a with
  | true => U ρ1
  | false => .ok false ρ1
def tor (T U : En → Res Bool) : En → Res Bool := fun ρ => (T ρ).bind fun a ρ1 => match a with
  | true => .ok true ρ1
  | false => U ρ1
def tnot (T : En → Res Bool) : En → Res Bool := fun ρ => (T ρ).bind fun a ρ1 => .ok (!a) ρ1
theorem L_tand (ha : LT K E t T) (hb : LT K E u U) : LT K E (tAnd t u) (tnd T U) := by
  refine LG.bind (k := fun c σ H Q => if c = true then u σ H Q else Q false H) ha fun F G H σ ρ x a Q R hx w => ?_
  subst hx
  cases x with
  | true => exact iteT (hb F G H σ ρ Q R w)
  | false => exact iteF (w _ G H R (Same.refl G) rfl)
theorem L_tor (ha : LT K E t T) (hb : LT K E u U) : LT K E (tOr t u) (tor T U) := by
  refine LG.bind (k := fun c σ H Q => if c = true then Q true H else u σ H Q) ha fun F G H σ ρ x a Q R hx w => ?_
  subst hx
  cases x with
  | true => exact iteT (w _ G H R (Same.refl G) rfl)
  | false => exact iteF (hb F G H σ ρ Q R w)
theorem L_tnot (ha : LT K E t T) : LT K E (tNot t) (tnot T) := by
  refine LG.bind (k := fun c σ H Q => Q (!c) H) ha fun F G H σ ρ x a Q R hx w => ?_
  subst hx
  exact w _ G H R (Same.refl G) rfl
def dIfE (T : En → Res Bool) (A B : En → Res X) : En → Res X := fun ρ => (T ρ).bind fun a ρ1 => match a with
  | true => A ρ1
  | false => B ρ1
theorem L_ifE (ht : LT K E t T) (ha : LE K E ta A) (hb : LE K E tb B) : LE K E (tIf t ta tb) (dIfE T A B) := by
  refine LG.bind (k := fun c σ H Q => if c = true then ta σ H Q else tb σ H Q) ht fun F G H σ ρ x a Q R hx w => ?_
  subst hx
  cases x with
  | true => exact iteT (ha F G H σ ρ Q R w)
  | false => exact iteF (hb F G H σ ρ Q R w)
/-- a op b op' c -/
def dChain (op op' : D2) (A B C : En → Res X) : En → Res X := fun ρ => (A ρ).bind fun a ρ1 => (B ρ1).bind fun b ρ2 => (ap2 op a.settle b.settle ρ2).bind fun z ρ3 => match asB ρ3 z with
  | some true => (C ρ3).bind fun c ρ4 => ap2 op' b.settle c ρ4
  | some false => .ok (.val (.bl false)) ρ3
  | none => .stuck
end
end DL
set_option Elab.async false
set_option linter.all false
set_option maxRecDepth 100000
set_option maxHeartbeats 2000000
namespace DL
open PySem PySem.Spec PyProof.Rows L2 DD
section
variable {K : Fg} {E : XK} {ta tb tc : TE} {A B C : En → Res X} {t : TA} {T : En → Res (List X)}
def aNil : En → Res (List X) := fun ρ => .ok [] ρ
def aCons (A : En → Res X) (T : En → Res (List X)) : En → Res (List X) := fun ρ => (A ρ).bind fun a ρ1 => (T ρ1).bind fun as ρ2 => .ok (a.settle :: as) ρ2
theorem A_nil : LA K E tNil aNil := fun F G H σ ρ Q R w => w [] G H R (Same.refl G) .nil
theorem RepXs.keep {F : Fm} {G G' H H' : Hp} {σ : L2.St} {ρ ρ' : En} : ∀ {vs : List V} {xs : List X}, RepXs K F G H σ ρ vs xs → Same G G' → RepXs K F G' H' σ ρ' vs xs
  | _, _, .nil, _ => .nil
  | _, _, .cons h n r, e => .cons (h.keep n e) n (r.keep e)
theorem A_cons (ha : LE K E ta A) (ht : LA K E t T) : LA K E (tCons ta t) (aCons A T) := by
  refine LG.bind (k := fun x σ H (Q : List V → Hp → Prop) => t σ H fun xs H2 => Q (x :: xs) H2) ha fun F G H σ ρ x a Q R hx w => ?_
  obtain ⟨G1, R1, s1, hx1⟩ := R.settle hx
  refine ht F G1 H σ ρ _ R1 ((w.mono s1).bind fun ys b G2 H2 ρ2 R2 s2 hy w2 => ?_)
  exact w2 _ G2 H2 R2 (Same.refl G2) (.cons (hx1.keep settle_no s2) settle_no hy)
@[simp] def derefs (ρ : En) : List X → Option (List D)
  | [] => some []
  | x :: xs => match deref ρ x, derefs ρ xs with
    | some d, some ds => some (d :: ds)
    | _, _ => none
theorem Rl.derefs {F : Fm} {G H : Hp} {σ : L2.St} {ρ : En} (R : Rl K F G H σ ρ) : ∀ {vs : List V} {xs : List X} {ds : List D}, RepXs K F G H σ ρ vs xs → derefs ρ xs = some ds → DRepA K G H vs ds
  | _, _, _, .nil, e => by cases e; exact .nil
  | _, x :: xs, _, .cons h n r, e => by
    simp only [DL.derefs] at e
    cases e1 : DL.deref ρ x with
    | none => rw [e1] at e; cases e
    | some d =>
      cases e2 : DL.derefs ρ xs with
      | none => rw [e1, e2] at e; cases e
      | some ds => rw [e1, e2] at e; cases e; exact .cons (R.deref h e1) (R.derefs r e2)
/-- as frozen data -/
@[simp] def toVals : En → List X → Option (List D × En)
  | ρ, [] => some ([], ρ)
  | ρ, x :: xs => match toVal ρ x with
    | some (d, ρ1) => match toVals ρ1 xs with
      | some (ds, ρ2) => some (d :: ds, ρ2)
      | none => none
    | none => none
theorem Rl.toVals {F : Fm} {H : Hp} {σ : L2.St} : ∀ {G : Hp} {ρ ρ' : En} {vs : List V} {xs : List X} {ds : List D}, Rl K F G H σ ρ → RepXs K F G H σ ρ vs xs → toVals ρ xs = some (ds, ρ') → ∃ G', Rl K F G' H σ ρ' ∧ Same G G' ∧ RepA K G' vs ds
  | G, ρ, _, _, _, _, R, .nil, e => by cases e; exact ⟨G, R, Same.refl G, .nil⟩
  | G, ρ, _, _, x :: xs, _, R, .cons h n r, e => by
    simp only [DL.toVals] at e
    cases e1 : DL.toVal ρ x with
    | none => rw [e1] at e; cases e
    | some p =>
      obtain ⟨d, ρ1⟩ := p
      rw [e1] at e
      dsimp only at e
      cases e2 : DL.toVals ρ1 xs with
      | none => rw [e2] at e; cases e
      | some p2 =>
        obtain ⟨ds, ρ2⟩ := p2
        rw [e2] at e
        cases e
        obtain ⟨G1, R1, s1, h1⟩ := R.toVal h e1
        obtain ⟨G2, R2, s2, h2⟩ := R1.toVals (r.keep s1) e2
        exact ⟨G2, R2, s1.trans s2, .cons (h1.mono s2) h2⟩
def dTup (T : En → Res (List X)) : En → Res X := fun ρ => (T ρ).bind fun xs ρ1 => match toVals ρ1 xs with
  | some (ds, ρ2) => if ds.length ≤ sizeLine then .ok (.val (.tup ds)) ρ2 else .stuck
  | none => .stuck
def dLst (T : En → Res (List X)) : En → Res X := fun ρ => (T ρ).bind fun xs ρ1 => match toVals ρ1 xs with
  | some (ds, ρ2) => if ds.length ≤ sizeLine then .ok (.new (.lst ds)) ρ2 else .stuck
  | none => .stuck
theorem L_tup (ht : LA K E t T) : LE K E (tTup t) (dTup T) := by
  refine LG.bind (k := fun xs σ H (Q : VK) => xs.length ≤ sizeLine ∧ ∀ p, H p = none → Q (.ref p) (upd H p (.tup xs))) ht fun F G H σ ρ vs xs Q R hx w => ?_
  cases e : toVals ρ xs with
  | none => rw [e] at w; exact w.elim
  | some p =>
    obtain ⟨ds, ρ2⟩ := p
    rw [e] at w
    dsimp only at w
    obtain ⟨G1, R1, s1, r1⟩ := R.toVals hx e
    split at w
    · rename_i hz
      refine ⟨by rw [r1.len]; exact hz, fun p np => ?_⟩
      obtain ⟨R2, s2, r2⟩ := newT R1 np r1
      exact w _ _ _ R2 (s1.trans s2) r2
    · exact w.elim
theorem L_lst (ht : LA K E t T) : LE K E (tLst t) (dLst T) := by
  refine LG.bind (k := fun xs σ H (Q : VK) => xs.length ≤ sizeLine ∧ ∀ p, H p = none → Q (.ref p) (upd H p (.lst xs))) ht fun F G H σ ρ vs xs Q R hx w => ?_
  cases e : toVals ρ xs with
  | none => rw [e] at w; exact w.elim
  | some p =>
    obtain ⟨ds, ρ2⟩ := p
    rw [e] at w
    dsimp only at w
    obtain ⟨G1, R1, s1, r1⟩ := R.toVals hx e
    split at w
    · rename_i hz
      refine ⟨by rw [r1.len]; exact hz, fun p np => ?_⟩
      obtain ⟨R2, r2⟩ := newL R1 np r1
      exact w _ _ _ R2 s1 r2
    · exact w.elim
@[simp] def opIx : D2
  | .tup ds, .int i | .lst ds, .int i | .scr ds, .int i => (atI ds i).map X.val
  | .str z, .int i => if z.length ≤ sizeLine then (atI z.cps.toList i).map fun c => X.val (.str ⟨#[c]⟩) else none
  | _, _ => none
theorem atI_rep {G : Hp} {vs : List V} {ds : List D} {i : Int} {d : D} (r : RepA K G vs ds) (e : atI ds i = some d) : ∃ v, atI vs i = some v ∧ Rep K G v d := by
  unfold atI at e ⊢
  rw [r.len]
  cases e1 : ixN ds.length i with
  | none => rw [e1] at e; cases e
  | some j =>
    rw [e1] at e
    exact r.get e
theorem S_ix : OpS K (rIx K) opIx := by
  intro F G H σ ρ x y d e z Q R hx hy ez q
  cases d <;> cases e <;> first | (cases ez; done) | skip
  · simp only [opIx] at ez
    split at ez
    · rename_i hc
      rw [Option.map_eq_some_iff] at ez
      obtain ⟨c, e1, rfl⟩ := ez
      exact .inr (.inr ⟨_, _, c, hx.str, hy.int, hc, e1, q _ G H R (Same.refl G) (.str _)⟩)
    · cases ez
  · simp only [opIx, Option.map_eq_some_iff] at ez
    obtain ⟨d, e1, rfl⟩ := ez
    obtain ⟨a, vs, rfl, g, h, r⟩ := hx.tup R.gh
    obtain ⟨v, e2, h2⟩ := atI_rep r e1
    exact .inr (.inl ⟨a, vs, _, v, rfl, hy.int, h, e2, q _ G H R (Same.refl G) h2⟩)
  · simp only [opIx, Option.map_eq_some_iff] at ez
    obtain ⟨d, e1, rfl⟩ := ez
    obtain ⟨a, vs, rfl, h, r⟩ := hx.lst R.gh
    obtain ⟨v, e2, h2⟩ := atI_rep r e1
    exact .inl ⟨a, vs, _, v, rfl, hy.int, .inl (.inl h), e2, q _ G H R (Same.refl G) h2⟩
  · simp only [opIx, Option.map_eq_some_iff] at ez
    obtain ⟨d, e1, rfl⟩ := ez
    obtain ⟨a, vs, rfl, h, r⟩ := hx.scr R.gh
    obtain ⟨v, e2, h2⟩ := atI_rep r e1
    exact .inl ⟨a, vs, _, v, rfl, hy.int, h, e2, q _ G H R (Same.refl G) h2⟩
def cutD (ds : List D) (lo hi : Option Int) : List D := (ds.drop (HT.sIx ds.length 0 lo)).take (HT.sIx ds.length ds.length hi - HT.sIx ds.length 0 lo)
theorem cut_rep {G : Hp} {vs : List V} {ds : List D} {lo hi : Option Int} (r : RepA K G vs ds) : RepA K G (cutV vs lo hi) (cutD ds lo hi) := by
  unfold cutV cutD
  rw [r.len]
  exact (r.drop _).take _
theorem cut_all {ds : List D} {lo hi : Option Int} (h : HT.sIx ds.length 0 lo = 0 ∧ HT.sIx ds.length ds.length hi = ds.length) : cutD ds lo hi = ds := by
  unfold cutD
  rw [h.1, h.2]
  simp
abbrev TOp := L2.St → Hp → (Option Int → Hp → Prop) → Prop
def oNone : En → Res (Option Int) := fun ρ => .ok none ρ
@[simp] def asI (ρ : En) (a : X) : Option Int := match deref ρ a with
  | some (.int i) => some i
  | _ => none
def oSome (A : En → Res X) : En → Res (Option Int) := fun ρ => (A ρ).bind fun a ρ1 => lift ((asI ρ1 a).map some) ρ1
theorem Rl.asI {F : Fm} {G H : Hp} {σ : L2.St} {ρ : En} {v : V} {a : X} {b : Int} (R : Rl K F G H σ ρ) (hx : RepX K F G H σ ρ v a) (e : asI ρ a = some b) : v = .int b := by
  unfold DL.asI at e
  cases e2 : DL.deref ρ a with
  | none => rw [e2] at e; cases e
  | some d =>
    rw [e2] at e
    cases d <;> cases e
    exact (R.deref hx e2).int
abbrev LO (K : Fg) (E : XK) (t : TOp) (T : En → Res (Option Int)) : Prop := LG K E (fun _ _ _ _ _ b a => b = a) t T
theorem O_none : LO K E tNoPart oNone := fun F G H σ ρ Q R w => w _ G H R (Same.refl G) rfl
theorem O_some (ha : LE K E ta A) : LO K E (tPart ta) (oSome A) := by
  refine LG.bind (k := fun x σ H (Q : Option Int → Hp → Prop) => ∃ i, x = .int i ∧ Q (some i) H) ha fun F G H σ ρ x a Q R hx w => ?_
  obtain ⟨b, e, q⟩ := w.lift
  rw [Option.map_eq_some_iff] at e
  obtain ⟨i, e, rfl⟩ := e
  exact ⟨i, R.asI hx e, q _ G H R (Same.refl G) rfl⟩
@[simp] def opSl (d : D) (lo hi : Option Int) : Option X := match d with
  | .tup ds => some (.val (.tup (cutD ds lo hi)))
  | .lst ds => some (.new (.lst (cutD ds lo hi)))
  | .str z => if z.length ≤ sizeLine then some (.val (.str (cutS z lo hi))) else none
  | _ => none
def rSl3 (K : Fg) : V → Option Int → Option Int → Hp → VK → Prop := fun x lo hi H Q => rSlA K x lo hi H Q ∨ rSlL K x lo hi H Q ∨ rSlS x lo hi H Q
def dSl (A : En → Res X) (L U : En → Res (Option Int)) : En → Res X := fun ρ => (A ρ).bind fun a ρ1 => (L ρ1).bind fun lo ρ2 => (U ρ2).bind fun hi ρ3 => match deref ρ3 a.settle with
  | some d => lift (opSl d lo hi) ρ3
  | none => .stuck
theorem L_sl {tl th : TOp} {L U : En → Res (Option Int)} (ha : LE K E ta A) (hl : LO K E tl L) (hu : LO K E th U) : LE K E (tSl (rSl3 K) ta tl th) (dSl A L U) := by
  refine LG.bind (k := fun x σ H (Q : VK) => tl σ H fun l H2 => th σ H2 fun u H3 => rSl3 K x l u H3 Q) ha fun F G H σ ρ x a Q R hx w => ?_
  obtain ⟨G1, R1, s1, hx1⟩ := R.settle hx
  refine hl F G1 H σ ρ _ R1 ((w.mono s1).bind fun lo lo' G2 H2 ρ2 R2 s2 el w2 => ?_)
  subst el
  refine hu F G2 H2 σ ρ2 _ R2 (w2.bind fun hi hi' G3 H3 ρ3 R3 s3 eu w3 => ?_)
  subst eu
  have hx3 := hx1.keep (H' := H3) (ρ' := ρ3) settle_no (s2.trans s3)
  cases e : deref ρ3 a.settle with
  | none => rw [e] at w3; exact w3.elim
  | some d =>
    rw [e] at w3
    obtain ⟨z, ez, q⟩ := w3.lift
    have hd := R3.deref hx3 e
    cases d <;> first | (cases ez; done) | skip
    · simp only [opSl] at ez
      split at ez
      · rename_i hc
        cases ez
        exact .inr (.inr ⟨_, hd.str, hc, q _ G3 H3 R3 (Same.refl G3) (.str _)⟩)
      · cases ez
    · cases ez
      obtain ⟨b, vs, rfl, g, h, r⟩ := hd.tup R3.gh
      refine .inl ⟨b, vs, rfl, h, fun hw => ?_, fun _ p np => ?_⟩
      · rw [r.len] at hw
        rw [cut_all hw] at q
        exact q _ G3 H3 R3 (Same.refl G3) (.tup g r)
      · obtain ⟨R4, s4, r4⟩ := newT R3 np (cut_rep (lo := lo) (hi := hi) r)
        exact q _ _ _ R4 s4 r4
    · cases ez
      obtain ⟨b, vs, rfl, h, r⟩ := hd.lst R3.gh
      refine .inr (.inl ⟨b, vs, rfl, .inl (.inl h), fun p np => ?_⟩)
      obtain ⟨R4, r4⟩ := newL R3 np (cut_rep (lo := lo) (hi := hi) r)
      exact q _ _ _ R4 (Same.refl G3) r4
end
theorem SlRor {X : Cx} {r r' : V → Option Int → Option Int → Hp → VK → Prop} (h : SlR X r) (h' : SlR X r') : SlR X (fun x lo hi H Q => r x lo hi H Q ∨ r' x lo hi H Q) := by
  intro pins s σ H x v vl vu lo hi sl Q I rx hs pl pu q
  rcases q with q | q
  · exact h pins s σ H x v vl vu lo hi sl Q I rx hs pl pu q
  · exact h' pins s σ H x v vl vu lo hi sl Q I rx hs pl pu q
theorem sl_3 {X : Cx} {K : Fg} (h : X.K = K := by rfl) : SlR X (rSl3 K) := h ▸ SlRor sl_tupA (SlRor sl_list sl_str)
theorem ix_3 {X : Cx} {K : Fg} (h : X.K = K := by rfl) : IxR X (rIx K) := h ▸ ix_seq
theorem CallRor {X : Cx} {f : Value} {r r' : List V → Hp → VK → Prop} (h : CallR X f r) (h' : CallR X f r') : CallR X f (fun xs H Q => r xs H Q ∨ r' xs H Q) := by
  intro pins s σ H xs us Q I rx q
  rcases q with q | q
  · exact h pins s σ H xs us Q I rx q
  · exact h' pins s σ H xs us Q I rx q
def CallS (K : Fg) (r : List V → Hp → VK → Prop) (f : List D → Option X) : Prop := ∀ (F : Fm) (G H : Hp) (σ : L2.St) (ρ : En) (vs : List V) (ds : List D) (z : X) (Q : VK), Rl K F G H σ ρ → DRepA K G H vs ds → f ds = some z →
  (∀ v G' H', Rl K F G' H' σ ρ → Same G G' → RepX K F G' H' σ ρ v z → Q v H') → r vs H Q
@[simp] def apN (f : List D → Option X) (xs : List X) (ρ : En) : Res X := match derefs ρ xs with
  | some ds => lift (f ds) ρ
  | none => .stuck
def dCB (f : List D → Option X) (T : En → Res (List X)) : En → Res X := fun ρ => (T ρ).bind (apN f)
section
variable {K : Fg} {E : XK} {ta tb tc : TE} {A B C : En → Res X} {t : TA} {T : En → Res (List X)} {r : List V → Hp → VK → Prop} {f : List D → Option X}
theorem L_cb (hr : CallS K r f) (ht : LA K E t T) : LE K E (tCB r t) (dCB f T) := by
  refine LG.bind (k := fun vs σ H (Q : VK) => r vs H Q) ht fun F G H σ ρ vs xs Q R hx w => ?_
  unfold apN at w
  cases e : derefs ρ xs with
  | none => rw [e] at w; exact w.elim
  | some ds =>
    rw [e] at w
    obtain ⟨z, ez, q⟩ := w.lift
    exact hr F G H σ ρ vs ds z Q R (R.derefs hx e) ez q
theorem DRepA.one {G H : Hp} {vs : List V} {d : D} (h : DRepA K G H vs [d]) : ∃ v, vs = [v] ∧ DRep K G H v d := by
  cases h with
  | cons h r => cases r; exact ⟨_, rfl, h⟩
theorem DRepA.two {G H : Hp} {vs : List V} {d e : D} (h : DRepA K G H vs [d, e]) : ∃ v w, vs = [v, w] ∧ DRep K G H v d ∧ DRep K G H w e := by
  cases h with
  | cons h r =>
    obtain ⟨w, rfl, h2⟩ := r.one
    exact ⟨_, w, rfl, h, h2⟩
@[simp] def fLen : List D → Option X
  | [.tup ds] | [.lst ds] | [.scr ds] => some (.val (.int ds.length))
  | [.str z] => if z.length ≤ sizeLine then some (.val (.int z.length)) else none
  | _ => none
def rLen2 (K : Fg) : List V → Hp → VK → Prop := fun xs H Q => (∃ p ys, xs = [.ref p] ∧ (SqL K H p ys ∨ SqT K H p ys) ∧ Q (.int ys.length) H) ∨ ∃ z, xs = [.str z] ∧ z.length ≤ sizeLine ∧ Q (.int z.length) H
theorem C_len : CallS K (rLen2 K) fLen := by
  intro F G H σ ρ vs ds z Q R hx ez q
  unfold fLen at ez
  split at ez
  · cases ez
    obtain ⟨v, rfl, h⟩ := hx.one
    obtain ⟨a, ws, rfl, g, h, r⟩ := h.tup R.gh
    exact .inl ⟨a, ws, rfl, .inr h, by rw [r.len]; exact q _ G H R (Same.refl G) (.int _)⟩
  · cases ez
    obtain ⟨v, rfl, h⟩ := hx.one
    obtain ⟨a, ws, rfl, h, r⟩ := h.lst R.gh
    exact .inl ⟨a, ws, rfl, .inl (.inl (.inl h)), by rw [r.len]; exact q _ G H R (Same.refl G) (.int _)⟩
  · cases ez
    obtain ⟨v, rfl, h⟩ := hx.one
    obtain ⟨a, ws, rfl, h, r⟩ := h.scr R.gh
    exact .inl ⟨a, ws, rfl, .inl h, by rw [r.len]; exact q _ G H R (Same.refl G) (.int _)⟩
  · split at ez
    · rename_i hc
      cases ez
      obtain ⟨v, rfl, h⟩ := hx.one
      obtain rfl := h.str
      exact .inr ⟨_, rfl, hc, q _ G H R (Same.refl G) (.int _)⟩
    · cases ez
  · cases ez
@[simp] def fAbs : List D → Option X
  | [.int i] => some (.val (.int (if i < 0 then -i else i)))
  | _ => none
theorem C_abs : CallS K (fun xs H Q => ∃ i, xs = [.int i] ∧ Q (.int (if i < 0 then -i else i)) H) fAbs := by
  intro F G H σ ρ vs ds z Q R hx ez q
  unfold fAbs at ez
  split at ez
  · cases ez
    obtain ⟨v, rfl, h⟩ := hx.one
    obtain rfl := h.int
    exact ⟨_, rfl, q _ G H R (Same.refl G) (.int _)⟩
  · cases ez
@[simp] def fMax : List D → Option X
  | [.int i, .int j] => some (.val (.int (if j > i then j else i)))
  | _ => none
theorem C_max : CallS K (fun xs H Q => ∃ i j, xs = [.int i, .int j] ∧ Q (.int (if j > i then j else i)) H) fMax := by
  intro F G H σ ρ vs ds z Q R hx ez q
  unfold fMax at ez
  split at ez
  · cases ez
    obtain ⟨v, w, rfl, h, h2⟩ := hx.two
    obtain rfl := h.int
    obtain rfl := h2.int
    exact ⟨_, _, rfl, q _ G H R (Same.refl G) (.int _)⟩
  · cases ez
@[simp] def fMin : List D → Option X
  | [.int i, .int j] => some (.val (.int (if j < i then j else i)))
  | _ => none
theorem C_min : CallS K (fun xs H Q => ∃ i j, xs = [.int i, .int j] ∧ Q (.int (if j < i then j else i)) H) fMin := by
  intro F G H σ ρ vs ds z Q R hx ez q
  unfold fMin at ez
  split at ez
  · cases ez
    obtain ⟨v, w, rfl, h, h2⟩ := hx.two
    obtain rfl := h.int
    obtain rfl := h2.int
    exact ⟨_, _, rfl, q _ G H R (Same.refl G) (.int _)⟩
  · cases ez
def rInt2 : List V → Hp → VK → Prop := fun xs H Q => ((∃ i, xs = [.int i] ∧ Q (.int i) H) ∨ ∃ k, xs = [.bl k] ∧ Q (.int (if k then 1 else 0)) H) ∨ ∃ a n, xs = [.str a] ∧ PySem.intText? a = some n ∧ a.length ≤ 640 ∧ Q (.int n) H
@[simp] def fInt : List D → Option X
  | [.int i] => some (.val (.int i))
  | [.bl k] => some (.val (.int (if k then 1 else 0)))
  | [.str a] => if a.length ≤ 640 then (PySem.intText? a).map fun n => .val (.int n) else none
  | _ => none
theorem C_int : CallS K rInt2 fInt := by
  intro F G H σ ρ vs ds z Q R hx ez q
  unfold fInt at ez
  split at ez
  · cases ez
    obtain ⟨v, rfl, h⟩ := hx.one
    obtain rfl := h.int
    exact .inl (.inl ⟨_, rfl, q _ G H R (Same.refl G) (.int _)⟩)
  · cases ez
    obtain ⟨v, rfl, h⟩ := hx.one
    obtain rfl := h.bl
    exact .inl (.inr ⟨_, rfl, q _ G H R (Same.refl G) (.int _)⟩)
  · split at ez
    · rename_i hc
      rw [Option.map_eq_some_iff] at ez
      obtain ⟨n, en, rfl⟩ := ez
      obtain ⟨v, rfl, h⟩ := hx.one
      obtain rfl := h.str
      exact .inr ⟨_, n, rfl, en, hc, q _ G H R (Same.refl G) (.int _)⟩
    · cases ez
  · cases ez
@[simp] def fStr : List D → Option X
  | [.int i] => if i.natAbs.log2 < 1920 then some (.val (.str (toString i))) else none
  | _ => none
@[simp] def fList : List D → Option X
  | [.tup ds] | [.lst ds] | [.scr ds] => some (.new (.lst ds))
  | _ => none
theorem C_list : CallS K (fun xs H Q => ∃ p ys, xs = [.ref p] ∧ (SqL K H p ys ∨ SqT K H p ys) ∧ ∀ l, H l = none → Q (.ref l) (upd H l (.lst ys))) fList := by
  intro F G H σ ρ vs ds z Q R hx ez q
  unfold fList at ez
  split at ez
  · cases ez
    obtain ⟨v, rfl, h⟩ := hx.one
    obtain ⟨a, ws, rfl, g, h, r⟩ := h.tup R.gh
    refine ⟨a, ws, rfl, .inr h, fun p np => ?_⟩
    obtain ⟨R2, r2⟩ := newL R np r
    exact q _ _ _ R2 (Same.refl G) r2
  · cases ez
    obtain ⟨v, rfl, h⟩ := hx.one
    obtain ⟨a, ws, rfl, h, r⟩ := h.lst R.gh
    refine ⟨a, ws, rfl, .inl (.inl (.inl h)), fun p np => ?_⟩
    obtain ⟨R2, r2⟩ := newL R np r
    exact q _ _ _ R2 (Same.refl G) r2
  · cases ez
    obtain ⟨v, rfl, h⟩ := hx.one
    obtain ⟨a, ws, rfl, h, r⟩ := h.scr R.gh
    refine ⟨a, ws, rfl, .inl h, fun p np => ?_⟩
    obtain ⟨R2, r2⟩ := newL R np r
    exact q _ _ _ R2 (Same.refl G) r2
  · cases ez
@[simp] def fTuple : List D → Option X
  | [.tup ds] | [.lst ds] | [.scr ds] => some (.val (.tup ds))
  | _ => none
theorem C_tuple : CallS K (fun xs H Q => ∃ p ys, xs = [.ref p] ∧ ((SqL K H p ys ∧ ∀ l, H l = none → Q (.ref l) (upd H l (.tup ys))) ∨ (SqT K H p ys ∧ Q (.ref p) H))) fTuple := by
  intro F G H σ ρ vs ds z Q R hx ez q
  unfold fTuple at ez
  split at ez
  · cases ez
    obtain ⟨v, rfl, h⟩ := hx.one
    obtain ⟨a, ws, rfl, g, h, r⟩ := h.tup R.gh
    exact ⟨a, ws, rfl, .inr ⟨h, q _ G H R (Same.refl G) (.tup g r)⟩⟩
  · cases ez
    obtain ⟨v, rfl, h⟩ := hx.one
    obtain ⟨a, ws, rfl, h, r⟩ := h.lst R.gh
    refine ⟨a, ws, rfl, .inl ⟨.inl (.inl h), fun p np => ?_⟩⟩
    obtain ⟨R2, s2, r2⟩ := newT R np r
    exact q _ _ _ R2 s2 r2
  · cases ez
    obtain ⟨v, rfl, h⟩ := hx.one
    obtain ⟨a, ws, rfl, h, r⟩ := h.scr R.gh
    refine ⟨a, ws, rfl, .inl ⟨h, fun p np => ?_⟩⟩
    obtain ⟨R2, s2, r2⟩ := newT R np r
    exact q _ _ _ R2 s2 r2
  · cases ez
@[simp] def allB : List D → Option (List Bool)
  | [] => some []
  | .bl b :: ds => (allB ds).map (b :: ·)
  | _ => none
theorem allB_rep {G : Hp} : ∀ {vs : List V} {ds : List D} {bs : List Bool}, RepA K G vs ds → allB ds = some bs → vs = bs.map V.bl
  | _, _, _, .nil, e => by cases e; rfl
  | _, .bl b :: ds, _, .cons h r, e => by
    simp only [allB, Option.map_eq_some_iff] at e
    obtain ⟨bs, e, rfl⟩ := e
    cases h
    rw [allB_rep r e]
    rfl
  | _, .int _ :: ds, _, .cons h r, e => by cases e
  | _, .non :: ds, _, .cons h r, e => by cases e
  | _, .str _ :: ds, _, .cons h r, e => by cases e
  | _, .tup _ :: ds, _, .cons h r, e => by cases e
  | _, .lst _ :: ds, _, .cons h r, e => by cases e
  | _, .scr _ :: ds, _, .cons h r, e => by cases e
  | _, .ins _ _ _ :: ds, _, .cons h r, e => by cases e
  | _, .cls _ :: ds, _, .cons h r, e => by cases e
@[simp] def fAll : List D → Option X
  | [.lst ds] => (allB ds).map fun bs => .val (.bl (bs.all id))
  | _ => none
theorem C_all : CallS K (rAll K) fAll := by
  intro F G H σ ρ vs ds z Q R hx ez q
  unfold fAll at ez
  split at ez
  · rw [Option.map_eq_some_iff] at ez
    obtain ⟨bs, e, rfl⟩ := ez
    obtain ⟨v, rfl, h⟩ := hx.one
    obtain ⟨a, ws, rfl, h, r⟩ := h.lst R.gh
    rw [allB_rep r e] at h
    exact ⟨a, bs, rfl, .inl (.inl h), q _ G H R (Same.refl G) (.bl _)⟩
  · cases ez
@[simp] def fAny : List D → Option X
  | [.lst ds] => (allB ds).map fun bs => .val (.bl (bs.any id))
  | _ => none
@[simp] def allI : List D → Option (List Int)
  | [] => some []
  | .int b :: ds => (allI ds).map (b :: ·)
  | _ => none
@[simp] def fSum : List D → Option X
  | [.lst ds] => (allI ds).map fun bs => .val (.int bs.sum)
  | _ => none
@[simp] def allS : List D → Option (List Str)
  | [] => some []
  | .str b :: ds => (allS ds).map (b :: ·)
  | _ => none
def fRepr : List D → Option X
  | [.int i] => if i.natAbs.log2 < 1920 then some (.val (.str (toString i))) else none
  | [.tup ds] => match (D.tup ds).py with
    | some p => if p.showable = true ∧ p.hasDict = false ∧ p.depth ≤ 60 ∧ p.shown.length ≤ sizeLine then some (.val (.str p.shown)) else none
    | none => none
  | [.lst ds] => match (D.lst ds).py with
    | some p => if p.showable = true ∧ p.hasDict = false ∧ p.depth ≤ 60 ∧ p.shown.length ≤ sizeLine then some (.val (.str p.shown)) else none
    | none => none
  | [.bl b] => some (.val (.str (if b then "True" else "False")))
  | _ => none
def rReprB : List V → Hp → VK → Prop := fun xs H Q => ∃ b : Bool, xs = [.bl b] ∧ Q (.str (if b then "True" else "False")) H
theorem call_reprB {X : Cx} : CallR X (.builtin "repr") rReprB := by
  intro pins s σ H xs us Q I r h
  obtain ⟨b, rfl, q⟩ := h
  obtain ⟨u, rfl, ru⟩ := r.one
  cases (show u = Value.bool b from ru)
  refine PySem.P.repr_of_bool ⟨.str (if b then "True" else "False"), H, I.tok _, ?_, q⟩
  cases b <;> exact ⟨_, rfl⟩
def rRepr2 (K : Fg) : List V → Hp → VK → Prop := fun xs H Q => (∃ i, xs = [.int i] ∧ i.natAbs.log2 < 1920 ∧ Q (.str (toString i)) H) ∨ rReprD K xs H Q ∨ rReprB xs H Q
theorem C_repr : CallS K (rRepr2 K) fRepr := by
  intro F G H σ ρ vs ds z Q R hx ez q
  unfold fRepr at ez
  split at ez
  · split at ez
    · rename_i hc
      cases ez
      obtain ⟨v, rfl, h⟩ := hx.one
      obtain rfl := h.int
      exact .inl ⟨_, rfl, hc, q _ G H R (Same.refl G) (.str _)⟩
    · cases ez
  · split at ez
    · rename_i p ep
      split at ez
      · rename_i hc
        cases ez
        obtain ⟨v, rfl, h⟩ := hx.one
        have h' := (h.rep R.gh).dp ep
        obtain ⟨a, ws, rfl, _⟩ := h.tup R.gh
        exact .inr (.inl ⟨a, p, rfl, h', hc.1, hc.2.1, hc.2.2.1, hc.2.2.2, q _ G H R (Same.refl G) (.str _)⟩)
      · cases ez
    · cases ez
  · split at ez
    · rename_i p ep
      split at ez
      · rename_i hc
        cases ez
        obtain ⟨v, rfl, h⟩ := hx.one
        have h' := (h.rep R.gh).dp ep
        obtain ⟨a, ws, rfl, _⟩ := h.lst R.gh
        exact .inr (.inl ⟨a, p, rfl, h', hc.1, hc.2.1, hc.2.2.1, hc.2.2.2, q _ G H R (Same.refl G) (.str _)⟩)
      · cases ez
    · cases ez
  · cases ez
    obtain ⟨v, rfl, h⟩ := hx.one
    obtain rfl := h.bl
    exact .inr (.inr ⟨_, rfl, q _ G H R (Same.refl G) (.str _)⟩)
  · cases ez
def rgD (a b : Int) : List D := (List.range (b - a).toNat).map fun i => D.int (a + (i : Nat))
abbrev LRg (K : Fg) (E : XK) (t : L2.St → Hp → (Int → Int → Hp → Prop) → Prop) (T : En → Res (Int × Int)) : Prop := ∀ (F : Fm) (G H : Hp) (σ : L2.St) (ρ : En) (Q : Int → Int → Hp → Prop), Rl K F G H σ ρ →
  Wants K E (fun _ _ _ _ _ b a => b = a) F G σ (fun (p : Int × Int) H => Q p.1 p.2 H) (T ρ) → t σ H Q
def g1 (A : En → Res X) : En → Res (Int × Int) := fun ρ => (A ρ).bind fun a ρ1 => lift ((asI ρ1 a).map fun n => (0, n)) ρ1
def g2 (A B : En → Res X) : En → Res (Int × Int) := fun ρ => (A ρ).bind fun a ρ1 => (B ρ1).bind fun b ρ2 => match asI ρ2 a.settle, asI ρ2 b with
  | some i, some j => .ok (i, j) ρ2
  | _, _ => .stuck
theorem G_2 (ha : LE K E ta A) (hb : LE K E tb B) : LRg K E (tRg2 ta tb) (g2 A B) := by
  intro F G H σ ρ Q R w
  refine ha F G H σ ρ _ R (w.bind fun x a G' H' ρ' R' s hx w' => ?_)
  obtain ⟨G1, R1, s1, hx1⟩ := R'.settle hx
  refine hb F G1 H' σ ρ' _ R1 ((w'.mono s1).bind fun y b G2 H2 ρ2 R2 s2 hy w2 => ?_)
  cases e1 : asI ρ2 a.settle with
  | none => rw [e1] at w2; exact w2.elim
  | some i =>
    cases e2 : asI ρ2 b with
    | none => rw [e1, e2] at w2; exact w2.elim
    | some j =>
      rw [e1, e2] at w2
      exact ⟨i, j, R2.asI (hx1.keep settle_no s2) e1, R2.asI hy e2, w2 (i, j) G2 H2 R2 (Same.refl G2) rfl⟩
open Classical in
noncomputable def dLstRg (T : En → Res (Int × Int)) : En → Res X := fun ρ => (T ρ).bind fun p ρ1 => if RgOk p.1 p.2 then .ok (.new (.lst (rgD p.1 p.2))) ρ1 else .stuck
theorem rg_rep {G : Hp} {a b : Int} : RepA K G (rgV a b) (rgD a b) := by
  unfold rgV rgD
  induction (List.range (b - a).toNat) with
  | nil => exact .nil
  | cons i is ih => exact .cons (.int _) ih
theorem L_lstRg {te : L2.St → Hp → (Int → Int → Hp → Prop) → Prop} {T : En → Res (Int × Int)} (ht : LRg K E te T) : LE K E (tLstRg te) (dLstRg T) := by
  intro F G H σ ρ Q R w
  refine ht F G H σ ρ _ R (w.bind fun p p' G' H' ρ' R' s e w' => ?_)
  subst e
  split at w'
  · rename_i hc
    refine ⟨hc, fun q nq => ?_⟩
    obtain ⟨R2, r2⟩ := newL R' nq (rg_rep (K := K) (G := G') (a := p.1) (b := p.2))
    exact w' _ _ _ R2 (Same.refl G') r2
  · exact w'.elim
@[simp] def fmtD : D → Option Str
  | .str y => if y.length ≤ sizeLine then some y else none
  | .int i => if i.natAbs.log2 < 1920 then some (toString i) else none
  | _ => none
def dFmt (A : En → Res X) : En → Res X := fun ρ => (A ρ).bind fun a ρ1 => match deref ρ1 a with
  | some d => lift ((fmtD d).map fun s => X.val (.str s)) ρ1
  | none => .stuck
def jNil : Str → En → Res Str := fun acc ρ => .ok acc ρ
def jCons (A : En → Res X) (J : Str → En → Res Str) : Str → En → Res Str := fun acc ρ => (A ρ).bind fun a ρ1 => match deref ρ1 a with
  | some (.str y) => if (acc ++ y).length ≤ sizeLine then J (acc ++ y) ρ1 else .stuck
  | _ => .stuck
def dJoin (J : Str → En → Res Str) : En → Res X := fun ρ => (J Str.empty ρ).bind fun s ρ1 => .ok (.val (.str s)) ρ1
def dMt (f : D → List D → Option X) (A : En → Res X) (T : En → Res (List X)) : En → Res X := fun ρ => (A ρ).bind fun a ρ1 => match deref ρ1 a with
  | some (.str s) => (T ρ1).bind fun xs ρ2 => match derefs ρ2 xs with
    | some ds => lift (f (.str s) ds) ρ2
    | none => .stuck
  | _ => .stuck
@[simp] def fJoin : D → List D → Option X
  | .str a, [.lst ds] | .str a, [.tup ds] => match allS ds with
    | some ys => if (ys.map (·.length)).sum + ys.length * a.length ≤ 16777216 then some (.val (.str (Txt.join a ys))) else none
    | none => none
  | _, _ => none
end
theorem call_len2 {X : Cx} {K : Fg} (h : X.K = K := by rfl) : CallR X (.builtin "len") (rLen2 K) := h ▸ CallRor call_len_seq call_len_str
theorem call_int2 {X : Cx} : CallR X (.type "int") rInt2 := CallRor call_int1 call_int_str
theorem call_repr2 {X : Cx} {K : Fg} (hg : X.A.guards = some []) (hu : X.A.units + 64 < cLine) (h : X.K = K := by rfl) : CallR X (.builtin "repr") (rRepr2 K) := h ▸ CallRor SkE.call_repr_int (CallRor (call_reprD hg hu) call_reprB)
end DL
set_option Elab.async false
set_option linter.all false
set_option maxRecDepth 100000
set_option maxHeartbeats 2000000
namespace DL
open PySem PySem.Spec PyProof.Rows L2 DD
def Fm.at (F : Fm) (G : Hp) : Fm := { F with G0 := G }
def Fm.hold (F : Fm) (a : Addr) (o : HO) : Fm := { F with H0 := upd F.H0 a o }
section
variable {K : Fg} {F : Fm} {G G' H H' : Hp} {σ σ' : L2.St} {ρ ρ' : En} {a p : Addr}
theorem Rl.at (R : Rl K F G H σ ρ) : Rl K (F.at G) G H σ ρ :=
  ⟨R.gh, Same.refl G, fun a o h h' => (by rw [show G a = none from h'] at h; cases h), R.hk, R.hm, R.hl, R.sl, R.di, R.mi⟩
theorem Rl.back (R : Rl K F G H σ ρ) (R' : Rl K (F.at G) G' H' σ' ρ') : Rl K F G' H' σ' ρ' :=
  ⟨R'.gh, R.g0.trans R'.g0, fun a o h h' => (by
    cases e : G a with
    | some u => exact R.gn a u e h'
    | none => exact R'.gn a o h e), R'.hk, R'.hm, R'.hl, R'.sl, R'.di, R'.mi⟩
theorem RepX.at {v : V} {x : X} (h : RepX K (F.at G0) G H σ ρ v x) : RepX K F G H σ ρ v x := by cases x <;> exact h
/-- what no slot owns is held -/
theorem Rl.hold {o : HO} (R : Rl K F G H σ ρ) (h : H a = some o) (h0 : F.H0 a = none) (hg : G a = none) (n : ∀ (j : Nat) (u : O), ρ[j]? = some (.own u) → σ[j]? ≠ some (some (.ref a))) : Rl K (F.hold a o) G H σ ρ where
  gh := R.gh
  g0 := R.g0
  gn := fun b u hb hb' => by
    show upd F.H0 a o b = none
    rw [upd_ne (ne_of_none hb hg)]
    exact R.gn b u hb hb'
  hk := fun b u hb hb' => by
    by_cases q : b = a
    · subst q
      rw [show (F.hold b o).H0 b = some o from upd_same] at hb
      cases hb
      exact h
    · rw [show (F.hold a o).H0 b = F.H0 b from upd_ne q] at hb
      exact R.hk b u hb hb'
  hm := fun i b hb => by
    obtain ⟨h1, h2, h3⟩ := R.hm i b hb
    refine ⟨h1, ?_, h3⟩
    show upd F.H0 a o b ≠ none
    rw [upd_ne (fun q => h2 (by rw [q]; exact h0))]
    exact h2
  hl := R.hl
  sl := fun i s hs => by
    obtain ⟨x, h1, h2⟩ := R.sl i s hs
    refine ⟨x, h1, ?_⟩
    cases s with
    | none => trivial
    | val d => exact h2
    | own u =>
      obtain ⟨b, rfl, e2, e3, e4⟩ := h2
      refine ⟨b, rfl, ?_, e3, e4⟩
      show upd F.H0 a o b = none
      rw [upd_ne (fun q => n i u hs (by rw [h1, q]))]
      exact e2
    | bor u => exact h2
    | lck u =>
      obtain ⟨b, u', rfl, e2, e3, e5, e6, e4⟩ := h2
      refine ⟨b, u', rfl, e2, e3, ?_, e6, e4⟩
      show upd F.H0 a o b = some u'
      rw [upd_ne (fun q => by rw [q, h0] at e5; cases e5)]
      exact e5
  di := R.di
  mi := R.mi
theorem Rl.noM (R : Rl K F G H σ ρ) (h0 : F.H0 a = none) (i : Nat) : F.M i ≠ some a := fun z => (R.hm i a z).2.1 h0
theorem Rl.heldG {o : HO} (R : Rl K (F.hold a o) G H σ ρ) (hg : F.G0 a = none) : G a = none := by
  cases e : G a with
  | none => rfl
  | some u =>
    have := R.gn a u e hg
    rw [show (F.hold a o).H0 a = some o from upd_same] at this
    cases this
theorem Rl.heldH {o : HO} (R : Rl K (F.hold a o) G H σ ρ) (hm : ∀ i, F.M i ≠ some a) : H a = some o := R.hk a o upd_same hm
theorem Rl.heldN {o : HO} (R : Rl K (F.hold a o) G H σ ρ) : ∀ (j : Nat) (u : O), ρ[j]? = some (.own u) → σ[j]? ≠ some (some (.ref a)) := fun j u hj z => by
  obtain ⟨b, h1, h2, _⟩ := R.own hj
  rw [h1] at z
  cases z
  rw [show (F.hold a o).H0 a = some o from upd_same] at h2
  cases h2
/-- held no longer -/
theorem Rl.unhold {o : HO} (R : Rl K (F.hold a o) G H σ ρ) (h0 : F.H0 a = none) (hl : ∀ i, F.L i ≠ some a) (hm : ∀ i, F.M i ≠ some a) : Rl K F G H σ ρ where
  gh := R.gh
  g0 := R.g0
  gn := fun b u hb hb' => by
    by_cases q : b = a
    · rw [q]; exact h0
    · have := R.gn b u hb hb'
      rw [show (F.hold a o).H0 b = F.H0 b from upd_ne q] at this
      exact this
  hk := fun b u hb hb' => R.hk b u (by
    rw [show (F.hold a o).H0 b = F.H0 b from upd_ne (ne_of_none hb h0)]
    exact hb) hb'
  hm := fun i b hb => by
    obtain ⟨h1, h2, h3⟩ := R.hm i b hb
    refine ⟨h1, ?_, h3⟩
    rw [show (F.hold a o).H0 b = F.H0 b from upd_ne (fun q => hm i (by rw [← q]; exact hb))] at h2
    exact h2
  hl := R.hl
  sl := fun i s hs => by
    obtain ⟨x, h1, h2⟩ := R.sl i s hs
    refine ⟨x, h1, ?_⟩
    cases s with
    | none => trivial
    | val d => exact h2
    | own u =>
      obtain ⟨b, rfl, e2, e3, e4⟩ := h2
      refine ⟨b, rfl, ?_, e3, e4⟩
      by_cases q : b = a
      · rw [q]; exact h0
      · rw [show (F.hold a o).H0 b = F.H0 b from upd_ne q] at e2
        exact e2
    | bor u => exact h2
    | lck u =>
      obtain ⟨b, u', rfl, e2, e3, e5, e6, e4⟩ := h2
      refine ⟨b, u', rfl, e2, e3, ?_, e6, e4⟩
      rw [show (F.hold a o).H0 b = F.H0 b from upd_ne (fun q => hl i (by rw [← q]; exact e2))] at e5
      exact e5
  di := R.di
  mi := R.mi
theorem Rl.rehold {o o' : HO} (R : Rl K (F.hold a o) G H σ ρ) (h0 : F.H0 a = none) (hg : F.G0 a = none) (hl : ∀ i, F.L i ≠ some a) (hm : ∀ i, F.M i ≠ some a) : Rl K (F.hold a o') G (upd H a o') σ ρ := by
  have N := R.heldN
  have hG := R.heldG hg
  have R1 := R.unhold h0 hl hm
  have far : ∀ b, b ≠ a → upd H a o' b = H b := fun b q => upd_ne q
  have R2 : Rl K F G (upd H a o') σ ρ := by
    refine ⟨fun b u hb => by rw [far b (ne_of_none hb hG)]; exact R1.gh b u hb, R1.g0, R1.gn, fun b u hb hb' => by rw [far b (ne_of_none hb h0)]; exact R1.hk b u hb hb', fun i b hb => ?_, R1.hl, fun i s hs => ?_, R1.di, R1.mi⟩
    · obtain ⟨h1, h2, h3⟩ := R1.hm i b hb
      exact ⟨by rw [far b (fun q => hm i (by rw [← q]; exact hb))]; exact h1, h2, h3⟩
    · obtain ⟨x, h1, h2⟩ := R1.sl i s hs
      refine ⟨x, h1, ?_⟩
      have mv : ∀ b w, b ≠ a → ObjO K G H b w → ObjO K G (upd H a o') b w := fun b w q z => z.mono (Same.refl G) fun u e => by rw [far b q]; exact e
      cases s with
      | none => trivial
      | val d => exact h2
      | own u =>
        obtain ⟨b, rfl, e2, e3, e4⟩ := h2
        exact ⟨b, rfl, e2, e3, mv b u (fun q => N i u hs (by rw [h1, q])) e4⟩
      | bor u =>
        obtain ⟨b, rfl, e2, e3, e4⟩ := h2
        exact ⟨b, rfl, e2, e3, mv b u (fun q => hm i (by rw [← q]; exact e2)) e4⟩
      | lck u =>
        obtain ⟨b, u', rfl, e2, e3, e5, e6, e4⟩ := h2
        exact ⟨b, u', rfl, e2, e3, e5, e6, mv b u (fun q => hl i (by rw [← q]; exact e2)) e4⟩
  exact R2.hold upd_same h0 hG N
theorem Rl.noL (R : Rl K F G H σ ρ) (h0 : F.H0 a = none) (i : Nat) : F.L i ≠ some a := fun z => by
  obtain ⟨o, h⟩ := R.hl i a z
  obtain ⟨x, _, b, u, _, e2, _, e5, _⟩ := R.sl i _ h
  rw [z] at e2
  cases e2
  rw [h0] at e5
  cases e5
theorem RepX.unhold {v : V} {x : X} {o : HO} (h : RepX K (F.hold a o) G H σ ρ v x) (h0 : F.H0 a = none) : RepX K F G H σ ρ v x := by
  cases x with
  | val d => exact h
  | own i => exact h
  | new u =>
    obtain ⟨b, rfl, e2, e3⟩ := h
    refine ⟨b, rfl, ?_, e3⟩
    by_cases q : b = a
    · rw [q]; exact h0
    · rw [show (F.hold a o).H0 b = F.H0 b from upd_ne q] at e2
      exact e2
end
inductive SR where
  | nx (ρ : En) | rt (x : X) (ρ : En) | bk (ρ : En) | ct (ρ : En) | err (x : Xc) (ρ : En) | stuck
def Res.sb {α : Type} : Res α → (α → En → SR) → SR
  | .ok a ρ, U => U a ρ
  | .err x ρ, _ => .err x ρ
  | .stuck, _ => .stuck
def WS (K : Fg) (E : XK) (F : Fm) (D : Ends) : SR → Prop
  | .nx ρ => ∀ σ G H, Rl K F G H σ ρ → D.nx σ H
  | .rt x ρ => ∀ v σ G H, Rl K F G H σ ρ → RepX K F G H σ ρ v x → D.rt v H
  | .bk ρ => ∀ σ G H, Rl K F G H σ ρ → D.bk σ H
  | .ct ρ => ∀ σ G H, Rl K F G H σ ρ → D.ct σ H
  | .err x ρ => ∀ c od σ G H, Rl K F G H σ ρ → XRep K G H c od x → E c od H
  | .stuck => False
def LS (K : Fg) (E : XK) (t : TS) (T : En → SR) : Prop := ∀ (F : Fm) (G H : Hp) (σ : L2.St) (ρ : En) (D : Ends), Rl K F G H σ ρ → WS K E F D (T ρ) → t D σ H
section
variable {α β : Type} {K : Fg} {E : XK} {F : Fm} {G G' H H' : Hp} {σ : L2.St} {ρ ρ' : En}
theorem WS.sb {rel : Rel β α} {D : Ends} {Q1 : β → Hp → Prop} {r : Res α} {U : α → En → SR} (h : WS K E F D (r.sb U))
    (k : ∀ b a G' H' ρ', Rl K F G' H' σ ρ' → Same G G' → rel F G' H' σ ρ' b a → WS K E F D (U a ρ') → Q1 b H') : Wants K E rel F G σ Q1 r := by
  cases r with
  | ok a ρ' => exact fun b G2 H2 R s q => k b a G2 H2 ρ' R s q h
  | err x ρ' => exact fun c od G2 H2 R _ x => h c od σ G2 H2 R x
  | stuck => exact h
variable {ta tb : TE} {A B : En → Res X} {tt : TT} {T : En → Res Bool} {s u : TS} {S U : En → SR}
def sNext : En → SR := fun ρ => .nx ρ
theorem L_next : LS K E tNext sNext := fun F G H σ ρ D R w => w σ G H R
def sSeq (S U : En → SR) : En → SR := fun ρ => match S ρ with
  | .nx ρ1 => U ρ1
  | r => r
theorem L_seq (h1 : LS K E s S) (h2 : LS K E u U) : LS K E (tSeq s u) (sSeq S U) := by
  intro F G H σ ρ D R w
  refine h1 F G H σ ρ _ R ?_
  unfold sSeq at w
  cases e : S ρ with
  | nx ρ1 =>
    rw [e] at w
    exact fun σ' G' H' R' => h2 F G' H' σ' ρ1 D R' w
  | rt x ρ1 => rw [e] at w; exact w
  | bk ρ1 => rw [e] at w; exact w
  | ct ρ1 => rw [e] at w; exact w
  | err x ρ1 => rw [e] at w; exact w
  | stuck => rw [e] at w; exact w
def sDrop (A : En → Res X) : En → SR := fun ρ => (A ρ).sb fun _ ρ1 => .nx ρ1
theorem L_drop (ha : LE K E ta A) : LS K E (tDrop ta) (sDrop A) := by
  intro F G H σ ρ D R w
  exact ha F G H σ ρ _ R (w.sb fun b a G' H' ρ' R' _ _ w' => w' σ G' H' R')
def sRet (A : En → Res X) : En → SR := fun ρ => (A ρ).sb fun a ρ1 => .rt a ρ1
theorem L_ret (ha : LE K E ta A) : LS K E (tRet ta) (sRet A) := by
  intro F G H σ ρ D R w
  exact ha F G H σ ρ _ R (w.sb fun b a G' H' ρ' R' _ hx w' => w' b σ G' H' R' hx)
def sRetN : En → SR := fun ρ => .rt (.val .non) ρ
def sBreak : En → SR := fun ρ => .bk ρ
def sCont : En → SR := fun ρ => .ct ρ
def sIf (T : En → Res Bool) (S U : En → SR) : En → SR := fun ρ => (T ρ).sb fun b ρ1 => match b with
  | true => S ρ1
  | false => U ρ1
theorem L_if (ht : LT K E tt T) (h1 : LS K E s S) (h2 : LS K E u U) : LS K E (tIfS tt s u) (sIf T S U) := by
  intro F G H σ ρ D R w
  refine ht F G H σ ρ _ R (w.sb fun b a G' H' ρ' R' _ e w' => ?_)
  subst e
  cases b with
  | true => exact iteT (h1 F G' H' σ ρ' D R' w')
  | false => exact iteF (h2 F G' H' σ ρ' D R' w')
@[simp] def putX (i : Nat) (x : X) (ρ : En) : SR := match x with
  | .val d => if freeAt ρ i then .nx (ρ.set i (.val d)) else .stuck
  | .new o => if freeAt ρ i then .nx (ρ.set i (.own o)) else .stuck
  | .own j => match toVal ρ (.own j) with
    | some (d, ρ1) => if freeAt ρ1 i then .nx (ρ1.set i (.val d)) else .stuck
    | none => .stuck
theorem put_run {i : Nat} {x : X} {v : V} {D : Ends} (R : Rl K F G H σ ρ) (hx : RepX K F G H σ ρ v x) (w : WS K E F D (putX i x ρ)) : D.nx (σ.set i (some v)) H := by
  unfold putX at w
  cases x with
  | val d =>
    dsimp only at w
    split at w
    · rename_i hf
      exact w _ G H (R.put hf ⟨v, rfl, hx⟩ rfl fun o e => by cases e)
    · exact w.elim
  | new o =>
    dsimp only at w
    split at w
    · rename_i hf
      obtain ⟨a, rfl, h0, hg, ho, n⟩ := hx
      exact w _ G H (R.put hf ⟨a, rfl, h0, hg, ho⟩ rfl fun o e j o' hj hr => n j o' hr)
    · exact w.elim
  | own j =>
    dsimp only at w
    split at w
    · rename_i d ρ1 e
      obtain ⟨G', R', s, r⟩ := R.toVal hx e
      split at w
      · rename_i hf
        exact w _ G' H (R'.put hf ⟨v, rfl, r⟩ rfl fun o e => by cases e)
      · exact w.elim
    · exact w.elim
def sSet (i : Nat) (A : En → Res X) : En → SR := fun ρ => (A ρ).sb fun a ρ1 => putX i a ρ1
theorem L_set {i : Nat} (ha : LE K E ta A) : LS K E (tAsg ta (gName i)) (sSet i A) := by
  intro F G H σ ρ D R w
  exact ha F G H σ ρ _ R (w.sb fun b a G' H' ρ' R' _ hx w' => put_run R' hx w')
abbrev Tg := D → En → Option En
def LTg (K : Fg) (vs : List Nat) (g : TG) (U : Tg) : Prop := ∀ (F : Fm) (G H : Hp) (σ : L2.St) (ρ ρ' : En) (v : V) (d : D) (Q : L2.St → Hp → Prop), Rl K F G H σ ρ → Rep K G v d → U d ρ = some ρ' →
  (∀ σ', Rl K F G H σ' ρ' → wipe σ' vs = wipe σ vs → Q σ' H) → g v σ H Q
@[simp] def uName (i : Nat) : Tg := fun d ρ => if freeAt ρ i then some (ρ.set i (.val d)) else none
theorem wipe_set : ∀ {vs : List Nat} {i : Nat} {σ : L2.St} {x : Option V}, i ∈ vs → wipe (σ.set i x) vs = wipe σ vs
  | v :: vs, i, σ, x, h => by
    by_cases q : i ∈ vs
    · show (wipe (σ.set i x) vs).set v none = (wipe σ vs).set v none
      rw [wipe_set q]
    · have e : i = v := by
        rcases List.mem_cons.mp h with h | h
        · exact h
        · exact absurd h q
      subst e
      show (wipe (σ.set i x) vs).set i none = (wipe σ vs).set i none
      apply List.ext_getElem?
      intro j
      by_cases e : i = j
      · subst e
        by_cases hl : i < (wipe σ vs).length
        · rw [List.getElem?_set_self hl, List.getElem?_set_self (by rw [wipe_length] at hl ⊢; simpa using hl)]
        · rw [List.getElem?_eq_none (by rw [List.length_set, wipe_length, List.length_set]; rw [wipe_length] at hl; omega), List.getElem?_eq_none (by rw [List.length_set]; omega)]
      · rw [List.getElem?_set_ne e, List.getElem?_set_ne e]
        have : ∀ (ws : List Nat) (τ : L2.St), i ∉ ws → (wipe (τ.set i x) ws)[j]? = (wipe τ ws)[j]? := by
          intro ws
          induction ws with
          | nil => intro τ _; show (τ.set i x)[j]? = τ[j]?; rw [List.getElem?_set_ne e]
          | cons w ws ih =>
            intro τ hn
            show ((wipe (τ.set i x) ws).set w none)[j]? = ((wipe τ ws).set w none)[j]?
            by_cases q2 : w = j
            · subst q2
              by_cases hl : w < τ.length
              · rw [List.getElem?_set_self (by rw [wipe_length]; simpa using hl), List.getElem?_set_self (by rw [wipe_length]; exact hl)]
              · rw [List.getElem?_eq_none (by rw [List.length_set, wipe_length, List.length_set]; omega), List.getElem?_eq_none (by rw [List.length_set, wipe_length]; omega)]
            · rw [List.getElem?_set_ne q2, List.getElem?_set_ne q2]
              exact ih τ fun z => hn (List.mem_cons_of_mem _ z)
        exact this vs σ q
theorem U_name {vs : List Nat} {i : Nat} (hi : i ∈ vs) : LTg K vs (gName i) (uName i) := by
  intro F G H σ ρ ρ' v d Q R hr e q
  unfold uName at e
  split at e
  · rename_i hf
    cases e
    exact q _ (R.put hf ⟨v, rfl, hr⟩ rfl fun o e => by cases e) (wipe_set hi)
  · cases e
abbrev Tgs := List D → En → Option En
def LTgs (K : Fg) (vs : List Nat) (g : TGs) (U : Tgs) : Prop := ∀ (F : Fm) (G H : Hp) (σ : L2.St) (ρ ρ' : En) (ws : List V) (ds : List D) (Q : L2.St → Hp → Prop), Rl K F G H σ ρ → RepA K G ws ds → U ds ρ = some ρ' →
  (∀ σ', Rl K F G H σ' ρ' → wipe σ' vs = wipe σ vs → Q σ' H) → g ws σ H Q
@[simp] def usNil : Tgs := fun ds ρ => match ds with
  | [] => some ρ
  | _ => none
@[simp] def usCons (U : Tg) (Us : Tgs) : Tgs := fun ds ρ => match ds with
  | d :: ds => (U d ρ).bind fun ρ1 => Us ds ρ1
  | [] => none
theorem Us_nil {vs : List Nat} : LTgs K vs gNil usNil := by
  intro F G H σ ρ ρ' ws ds Q R hr e q
  cases ds with
  | nil =>
    cases e
    cases hr
    exact ⟨rfl, q σ R rfl⟩
  | cons d ds => cases e
theorem Us_cons {vs : List Nat} {g : TG} {gs : TGs} {U : Tg} {Us : Tgs} (h : LTg K vs g U) (hs : LTgs K vs gs Us) : LTgs K vs (gCons g gs) (usCons U Us) := by
  intro F G H σ ρ ρ' ws ds Q R hr e q
  cases ds with
  | nil => cases e
  | cons d ds =>
    cases hr with
    | cons r rs =>
      simp only [usCons] at e
      cases e1 : U d ρ with
      | none => rw [e1] at e; cases e
      | some ρ1 =>
        rw [e1] at e
        exact ⟨_, _, rfl, h F G H σ ρ ρ1 _ d _ R r e1 fun σ1 R1 w1 => hs F G H σ1 ρ1 ρ' _ ds Q R1 rs e fun σ2 R2 w2 => q σ2 R2 (w2.trans w1)⟩
@[simp] def uTup (n : Nat) (Us : Tgs) : Tg := fun d ρ => match d with
  | .tup ds => if ds.length = n then Us ds ρ else none
  | _ => none
theorem U_tup {vs : List Nat} {gs : TGs} {Us : Tgs} {n : Nat} (hs : LTgs K vs gs Us) : LTg K vs (gTup K n gs) (uTup n Us) := by
  intro F G H σ ρ ρ' v d Q R hr e q
  cases d <;> first | (cases e; done) | skip
  rename_i ds
  simp only [uTup] at e
  split at e
  · rename_i hn
    cases hr with
    | tup h r => exact ⟨_, _, rfl, smTup R.gh h, by rw [r.len, hn], hs F G H σ ρ ρ' _ ds Q R r e q⟩
  · cases e
def sTgt (U : Tg) (A : En → Res X) : En → SR := fun ρ => (A ρ).sb fun a ρ1 => match toVal ρ1 a with
  | some (d, ρ2) => match U d ρ2 with
    | some ρ3 => .nx ρ3
    | none => .stuck
  | none => .stuck
theorem L_tgt {vs : List Nat} {g : TG} {U : Tg} (ha : LE K E ta A) (hg : LTg K vs g U) : LS K E (tAsg ta g) (sTgt U A) := by
  intro F G H σ ρ D R w
  refine ha F G H σ ρ _ R (w.sb fun b a G' H' ρ' R' _ hx w' => ?_)
  cases e : toVal ρ' a with
  | none => rw [e] at w'; exact w'.elim
  | some p =>
    obtain ⟨d, ρ2⟩ := p
    rw [e] at w'
    obtain ⟨G2, R2, s2, r2⟩ := R'.toVal hx e
    dsimp only at w'
    cases e2 : U d ρ2 with
    | none => rw [e2] at w'; exact w'.elim
    | some ρ3 =>
      rw [e2] at w'
      exact hg F G2 H' σ ρ2 ρ3 b d _ R2 r2 e2 fun σ' R3 _ => w' σ' G2 H' R3
end
end DL
set_option Elab.async false
set_option linter.all false
set_option maxRecDepth 100000
set_option maxHeartbeats 2000000
namespace DL
open PySem PySem.Spec PyProof.Rows L2 DD
section
variable {K : Fg} {E : XK} {F : Fm} {G G' H H' : Hp} {σ : L2.St} {ρ ρ' : En} {ta tb : TE} {A B : En → Res X} {t : TA} {T : En → Res (List X)}
abbrev Mu := List D → List D → Option (D × List D)
@[simp] def lstAt (ρ : En) (i : Nat) : Option (List D) := match ρ[i]? with
  | some (.own (.lst ds)) | some (.bor (.lst ds)) => some ds
  | _ => none
@[simp] def setAt (ρ : En) (i : Nat) (ds : List D) : En := match ρ[i]? with
  | some (.own _) => ρ.set i (.own (.lst ds))
  | some (.bor _) => ρ.set i (.bor (.lst ds))
  | _ => ρ
theorem Rl.lstAt {i : Nat} {ds : List D} (R : Rl K F G H σ ρ) (h : lstAt ρ i = some ds) : ∃ s a vs, ρ[i]? = some s ∧ s.co = some (.lst ds) ∧ σ[i]? = some (some (.ref a)) ∧ G a = none ∧ H a = some (.lst vs) ∧ RepA K G vs ds := by
  unfold DL.lstAt at h
  split at h
  · rename_i ds' e
    cases h
    obtain ⟨a, h1, _, h2, vs, h3, h4⟩ := R.own e
    exact ⟨_, a, vs, e, rfl, h1, h2, h3, h4⟩
  · rename_i ds' e
    cases h
    obtain ⟨a, h1, _, h2, vs, h3, h4⟩ := R.bor e
    exact ⟨_, a, vs, e, rfl, h1, h2, h3, h4⟩
  · cases h
theorem Rl.setAt {i : Nat} {ds ds' : List D} {a : Addr} {ws : List V} (R : Rl K F G H σ ρ) (h : DL.lstAt ρ i = some ds) (ha : σ[i]? = some (some (.ref a))) (r : RepA K G ws ds') : Rl K F G (upd H a (.lst ws)) σ (DL.setAt ρ i ds') := by
  obtain ⟨s, b, vs, h1, h2, h3, h4, h5, h6⟩ := R.lstAt h
  rw [ha] at h3
  cases h3
  rcases co_cases h2 with rfl | rfl
  · have R' := R.mut h1 (s' := .own (.lst ds')) rfl ha ⟨ws, upd_same, r⟩
    have e : DL.setAt ρ i ds' = ρ.set i (.own (.lst ds')) := by
      unfold DL.setAt
      rw [h1]
    rw [e]
    exact R'
  · have R' := R.mut h1 (s' := .bor (.lst ds')) rfl ha ⟨ws, upd_same, r⟩
    have e : DL.setAt ρ i ds' = ρ.set i (.bor (.lst ds')) := by
      unfold DL.setAt
      rw [h1]
    rw [e]
    exact R'
def MuS (K : Fg) (r : V → List V → Hp → VK → Prop) (f : Mu) : Prop := ∀ (G H : Hp) (a : Addr) (ws vs : List V) (ds as ds' : List D) (z : D) (Q : VK), Same G H → H a = some (.lst ws) → RepA K G ws ds → RepA K G vs as → f ds as = some (z, ds') →
  (∀ ws' v, RepA K G ws' ds' → Rep K G v z → Q v (upd H a (.lst ws'))) → r (.ref a) vs H Q
def eMut (i : Nat) (f : Mu) (T : En → Res (List X)) : En → Res X := fun ρ => match lstAt ρ i with
  | none => .stuck
  | some _ => (T ρ).bind fun xs ρ1 => match toVals ρ1 xs with
    | none => .stuck
    | some (as, ρ2) => match lstAt ρ2 i with
      | none => .stuck
      | some ds => match f ds as with
        | none => .stuck
        | some (z, ds') => .ok (.val z) (setAt ρ2 i ds')
theorem L_mut {m : V → List V → Hp → VK → Prop} {f : Mu} {i : Nat} (hm : MuS K m f) (ht : LA K E t T) : LE K E (tBM K "list" m (tVar i) t) (eMut i f T) := by
  intro F G H σ ρ Q R w
  unfold eMut at w
  cases e0 : lstAt ρ i with
  | none => rw [e0] at w; exact w.elim
  | some ds0 =>
    rw [e0] at w
    obtain ⟨s, a, vs, h1, h2, h3, h4, h5, h6⟩ := R.lstAt e0
    refine ⟨_, h3, .inl ⟨rfl, vs, .inl (.inl h5)⟩, ht F G H σ ρ _ R (w.bind fun ys xs G1 H1 ρ1 R1 s1 hy w1 => ?_)⟩
    cases e1 : toVals ρ1 xs with
    | none => rw [e1] at w1; exact w1.elim
    | some p =>
      obtain ⟨as, ρ2⟩ := p
      rw [e1] at w1
      dsimp only at w1
      obtain ⟨G2, R2, s2, r2⟩ := R1.toVals hy e1
      cases e2 : lstAt ρ2 i with
      | none => rw [e2] at w1; exact w1.elim
      | some ds =>
        rw [e2] at w1
        dsimp only at w1
        obtain ⟨s', b, ws, g1, g2, g3, g4, g5, g6⟩ := R2.lstAt e2
        rw [h3] at g3
        cases g3
        cases e3 : f ds as with
        | none => rw [e3] at w1; exact w1.elim
        | some p =>
          obtain ⟨z, ds'⟩ := p
          rw [e3] at w1
          dsimp only at w1
          exact hm G2 H1 a ws ys ds as ds' z Q R2.gh g5 g6 r2 e3 fun ws' v q1 q2 => w1 v G2 _ (R2.setAt e2 h3 q1) s2 q2
@[simp] def mAppend : Mu := fun ds as => match as with
  | [d] => if ds.length < sizeLine then some (.non, ds ++ [d]) else none
  | _ => none
theorem M_append : MuS K rAppend mAppend := by
  intro G H a ws vs ds as ds' z Q s h hw hv e q
  unfold mAppend at e
  split at e
  · split at e
    · rename_i hz
      cases e
      cases hv with
      | cons h1 r =>
        cases r
        exact ⟨a, ws, _, rfl, rfl, h, by rw [hw.len]; exact hz, q _ .non (hw.app (.one h1)) .non⟩
    · cases e
  · cases e
@[simp] def mExtend : Mu := fun ds as => match as with
  | [.lst es] => if ds.length + es.length ≤ sizeLine then some (.non, ds ++ es) else none
  | _ => none
theorem M_extend : MuS K rExtend mExtend := by
  intro G H a ws vs ds as ds' z Q s h hw hv e q
  unfold mExtend at e
  split at e
  · split at e
    · rename_i hz
      cases e
      cases hv with
      | cons h1 r =>
        cases r
        cases h1 with
        | lst g1 g2 => exact ⟨a, _, ws, _, rfl, rfl, h, s _ _ g1, by rw [hw.len, g2.len]; exact hz, q _ .non (hw.app g2) .non⟩
    · cases e
  · cases e
@[simp] def mPop : Mu := fun ds as => match as with
  | [.int i] => if -(2 ^ 63) ≤ i ∧ i < 2 ^ 63 then (seqIndex? i ds.length).bind fun k => (ds[k]?).map fun d => (d, ds.eraseIdx k) else none
  | _ => none
@[simp] def mPop0 : Mu := fun ds as => match as with
  | [] => (ds[ds.length - 1]?).map fun d => (d, ds.dropLast)
  | _ => none
def sPut (i : Nat) (A B : En → Res X) : En → SR := fun ρ => (A ρ).sb fun a ρ1 => match toVal ρ1 a with
  | none => .stuck
  | some (d, ρ2) => match lstAt ρ2 i with
    | none => .stuck
    | some _ => (B ρ2).sb fun b ρ3 => match asI ρ3 b, lstAt ρ3 i with
      | some k, some ds => match ixN ds.length k with
        | some j => .nx (setAt ρ3 i (ds.set j d))
        | none => .stuck
      | _, _ => .stuck
theorem L_put {i : Nat} (ha : LE K E ta A) (hb : LE K E tb B) : LS K E (tAsg ta (gSub (tVar i) tb rSetL)) (sPut i A B) := by
  intro F G H σ ρ D R w
  refine ha F G H σ ρ _ R (w.sb fun v a G1 H1 ρ1 R1 s1 hx w1 => ?_)
  cases e : toVal ρ1 a with
  | none => rw [e] at w1; exact w1.elim
  | some p =>
    obtain ⟨d, ρ2⟩ := p
    rw [e] at w1
    dsimp only at w1
    obtain ⟨G2, R2, s2, r2⟩ := R1.toVal hx e
    cases e0 : lstAt ρ2 i with
    | none => rw [e0] at w1; exact w1.elim
    | some ds0 =>
      rw [e0] at w1
      dsimp only at w1
      obtain ⟨s, b, vs, h1, h2, h3, h4, h5, h6⟩ := R2.lstAt e0
      refine ⟨_, h3, hb F G2 H1 σ ρ2 _ R2 (w1.sb fun y k G3 H3 ρ3 R3 s3 hy w3 => ?_)⟩
      cases e1 : asI ρ3 k with
      | none => rw [e1] at w3; exact w3.elim
      | some n =>
        cases e2 : lstAt ρ3 i with
        | none => rw [e1, e2] at w3; exact w3.elim
        | some ds =>
          rw [e1, e2] at w3
          dsimp only at w3
          cases e3 : ixN ds.length n with
          | none => rw [e3] at w3; exact w3.elim
          | some j =>
            rw [e3] at w3
            obtain ⟨s', c, ws, g1, g2, g3, g4, g5, g6⟩ := R3.lstAt e2
            rw [h3] at g3
            cases g3
            exact ⟨b, ws, n, j, rfl, R3.asI hy e1, g5, by rw [g6.len]; exact e3, w3 _ _ _ (R3.setAt e2 h3 (g6.set j (r2.mono s3)))⟩
@[simp] def getF (f : Str) : List Str → List D → Option D
  | k :: ks, d :: ds => if k = f then some d else getF f ks ds
  | _, _ => none
theorem getF_rep {f : Str} {d : D} : ∀ {fs : List (Str × V)} {ks : List Str} {ds : List D}, fs.map (·.1) = ks → RepA K G (fs.map (·.2)) ds → getF f ks ds = some d → ∃ v, fs.lookup f = some v ∧ Rep K G v d
  | [], _, _, rfl, r, e => by cases e
  | (k, x) :: fs, _, _, rfl, r, e => by
    rw [List.map_cons] at r
    cases r with
    | cons h r =>
      simp only [List.map_cons, getF] at e
      by_cases q : k = f
      · rw [if_pos q] at e
        cases e
        exact ⟨x, by simp [List.lookup, q], h⟩
      · rw [if_neg q] at e
        obtain ⟨v, h1, h2⟩ := getF_rep (fs := fs) rfl r e
        refine ⟨v, ?_, h2⟩
        have : (f == k) = false := by rw [beq_eq_false_iff_ne]; exact fun z => q z.symm
        simp only [List.lookup, this]
        exact h1
def dFld (Cs : List Addr) (f : Str) (A : En → Res X) : En → Res X := fun ρ => (A ρ).bind fun a ρ1 => match deref ρ1 a with
  | some (.ins C ks ds) => if C ∈ Cs then lift ((getF f ks ds).map X.val) ρ1 else .stuck
  | _ => .stuck
theorem L_fld {Cs : List Addr} {f : Str} (hc : ∀ C ∈ Cs, Cls K C ∧ NoAttr K C f) (ha : LE K E ta A) : LE K E (tFld K ta f) (dFld Cs f A) := by
  refine LG.bind (k := fun x σ H (Q : VK) => ∃ a C dx fs v, x = .ref a ∧ H a = some (.ins C dx fs) ∧ Cls K C ∧ NoAttr K C f ∧ fs.lookup f = some v ∧ Q v H) ha fun F G H σ ρ x a Q R hx w => ?_
  cases e : deref ρ a with
  | none => rw [e] at w; exact w.elim
  | some d =>
    rw [e] at w
    have hd := R.deref hx e
    cases d <;> try exact w.elim
    rename_i C ks ds
    dsimp only at w
    split at w
    · rename_i hC
      obtain ⟨z, ez, q⟩ := w.lift
      rw [Option.map_eq_some_iff] at ez
      obtain ⟨d, ez, rfl⟩ := ez
      obtain ⟨b, dx, fs, rfl, h1, h2, h3⟩ := hd.ins R.gh
      obtain ⟨v, h4, h5⟩ := getF_rep h2 h3 ez
      exact ⟨b, C, dx, fs, v, rfl, h1, (hc C hC).1, (hc C hC).2, h4, q _ G H R (Same.refl G) h5⟩
    · exact w.elim
@[simp] def putFD (f : Str) (d : D) : List Str → List D → List Str × List D
  | k :: ks, e :: ds => if k = f then (k :: ks, d :: ds) else ((k :: (putFD f d ks ds).1), (e :: (putFD f d ks ds).2))
  | _, _ => ([f], [d])
theorem putF_rep {f : Str} {v : V} {d : D} (h : Rep K G v d) : ∀ {fs : List (Str × V)} {ks : List Str} {ds : List D}, fs.map (·.1) = ks → RepA K G (fs.map (·.2)) ds → (putF f v fs).map (·.1) = (putFD f d ks ds).1 ∧ RepA K G ((putF f v fs).map (·.2)) (putFD f d ks ds).2
  | [], _, _, rfl, r => by
    cases r
    exact ⟨rfl, .cons h .nil⟩
  | (k, x) :: fs, _, _, rfl, r => by
    rw [List.map_cons] at r
    cases r with
    | cons h0 r =>
      obtain ⟨h1, h2⟩ := putF_rep h (fs := fs) rfl r
      rw [show putF f v ((k, x) :: fs) = (if k = f then (k, v) :: fs else (k, x) :: putF f v fs) from rfl]
      simp only [List.map_cons, putFD]
      by_cases q : k = f
      · rw [if_pos q, if_pos q]
        exact ⟨rfl, .cons h r⟩
      · rw [if_neg q, if_neg q]
        exact ⟨by rw [List.map_cons, h1], .cons h0 h2⟩
@[simp] def insAt (ρ : En) (i : Nat) : Option (Addr × List Str × List D) := match ρ[i]? with
  | some (.own (.ins C ks ds)) | some (.bor (.ins C ks ds)) => some (C, ks, ds)
  | _ => none
@[simp] def setIns (ρ : En) (i : Nat) (o : O) : En := match ρ[i]? with
  | some (.own _) => ρ.set i (.own o)
  | some (.bor _) => ρ.set i (.bor o)
  | _ => ρ
def sFldD (Cs : List Addr) (i : Nat) (f : Str) (A : En → Res X) : En → SR := fun ρ => (A ρ).sb fun a ρ1 => match toVal ρ1 a with
  | none => .stuck
  | some (d, ρ2) => match insAt ρ2 i with
    | some (C, ks, ds) => if C ∈ Cs ∧ ks.length < 1000 then .nx (setIns ρ2 i (.ins C (putFD f d ks ds).1 (putFD f d ks ds).2)) else .stuck
    | none => .stuck
theorem L_sfld {Cs : List Addr} {i : Nat} {f : Str} (hc : ∀ C ∈ Cs, Cls K C ∧ NoAttr K C f) (ha : LE K E ta A) : LS K E (sFld K (tVar i) ta f) (sFldD Cs i f A) := by
  intro F G H σ ρ D R w
  refine ha F G H σ ρ _ R (w.sb fun v a G1 H1 ρ1 R1 s1 hx w1 => ?_)
  cases e : toVal ρ1 a with
  | none => rw [e] at w1; exact w1.elim
  | some p =>
    obtain ⟨d, ρ2⟩ := p
    rw [e] at w1
    dsimp only at w1
    obtain ⟨G2, R2, s2, r2⟩ := R1.toVal hx e
    cases e0 : insAt ρ2 i with
    | none => rw [e0] at w1; exact w1.elim
    | some q =>
      obtain ⟨C, ks, ds⟩ := q
      rw [e0] at w1
      dsimp only at w1
      split at w1
      · rename_i hC
        obtain ⟨s, hs, hco⟩ : ∃ s, ρ2[i]? = some s ∧ s.co = some (.ins C ks ds) := by
          unfold insAt at e0
          split at e0
          · rename_i e; cases e0; exact ⟨_, e, rfl⟩
          · rename_i e; cases e0; exact ⟨_, e, rfl⟩
          · cases e0
        obtain ⟨b, h1, h2, dx, fs, h3, h4, h5⟩ := R2.holder hs hco
        obtain ⟨p1, p2⟩ := putF_rep (f := f) r2 h4 h5
        refine ⟨_, h1, b, C, dx, fs, rfl, h3, (hc C hC.1).1, (hc C hC.1).2, by rw [← h4, List.length_map] at hC; exact hC.2, ?_⟩
        rcases co_cases hco with rfl | rfl
        · have R3 := R2.mut hs (s' := .own (.ins C (putFD f d ks ds).1 (putFD f d ks ds).2)) rfl h1 (u := .ins C dx (putF f v fs)) ⟨dx, _, upd_same, p1, p2⟩
          have e : setIns ρ2 i (.ins C (putFD f d ks ds).1 (putFD f d ks ds).2) = ρ2.set i (.own (.ins C (putFD f d ks ds).1 (putFD f d ks ds).2)) := by
            unfold setIns
            rw [hs]
          rw [e] at w1
          exact w1 _ _ _ R3
        · have R3 := R2.mut hs (s' := .bor (.ins C (putFD f d ks ds).1 (putFD f d ks ds).2)) rfl h1 (u := .ins C dx (putF f v fs)) ⟨dx, _, upd_same, p1, p2⟩
          have e : setIns ρ2 i (.ins C (putFD f d ks ds).1 (putFD f d ks ds).2) = ρ2.set i (.bor (.ins C (putFD f d ks ds).1 (putFD f d ks ds).2)) := by
            unfold setIns
            rw [hs]
          rw [e] at w1
          exact w1 _ _ _ R3
      · exact w1.elim
def newAt (x : X) : Bool := match x with
  | .new _ => true
  | _ => false
/-- values one beside the other, new ones among them -/
inductive RepXn (K : Fg) (F : Fm) (G H : Hp) (σ : L2.St) (ρ : En) : List V → List X → Prop
  | nil : RepXn K F G H σ ρ [] []
  | cons {v : V} {vs : List V} {x : X} {xs : List X} : RepX K F G H σ ρ v x → (newAt x = true → ∀ (j : Nat) (y : X), xs[j]? = some y → newAt y = true → vs[j]? ≠ some v) → RepXn K F G H σ ρ vs xs → RepXn K F G H σ ρ (v :: vs) (x :: xs)
theorem RepXn.get : ∀ {vs : List V} {xs : List X} {j : Nat} {y : X}, RepXn K F G H σ ρ vs xs → xs[j]? = some y → ∃ v, vs[j]? = some v ∧ RepX K F G H σ ρ v y
  | _, _, _, _, .nil, e => by simp at e
  | _, _, 0, _, .cons h _ _, e => by simp at e; subst e; exact ⟨_, rfl, h⟩
  | _, _, j + 1, _, .cons _ _ r, e => by
    obtain ⟨v, h1, h2⟩ := r.get (j := j) (by simpa using e)
    exact ⟨v, by simpa using h1, h2⟩
abbrev LN (K : Fg) (E : XK) (t : TA) (T : En → Res (List X)) : Prop := LG K E (RepXn K) t T
def nCons (A : En → Res X) (T : En → Res (List X)) : En → Res (List X) := fun ρ => (A ρ).bind fun a ρ1 => match a with
  | .own j => match toVal ρ1 (.own j) with
    | some (d, ρ2) => (T ρ2).bind fun as ρ3 => .ok (.val d :: as) ρ3
    | none => .stuck
  | a => (T ρ1).bind fun as ρ2 => .ok (a :: as) ρ2
theorem N_nil : LN K E tNil aNil := fun F G H σ ρ Q R w => w [] G H R (Same.refl G) .nil
theorem RepXn.unhold {a : Addr} {o : HO} (h0 : F.H0 a = none) : ∀ {vs : List V} {xs : List X}, RepXn K (F.hold a o) G H σ ρ vs xs → RepXn K F G H σ ρ vs xs
  | _, _, .nil => .nil
  | _, _, .cons h n r => .cons (h.unhold h0) n (r.unhold h0)
theorem N_cons (ha : LE K E ta A) (ht : LN K E t T) : LN K E (tCons ta t) (nCons A T) := by
  refine LG.bind (k := fun x σ H (Q : List V → Hp → Prop) => t σ H fun xs H2 => Q (x :: xs) H2) ha fun F G H σ ρ x a Q R hx w => ?_
  cases a with
  | val d =>
    exact ht F G H σ ρ _ R (w.bind fun ys b G2 H2 ρ2 R2 s2 hy w2 => w2 _ G2 H2 R2 (Same.refl G2) (.cons (Rep.mono s2 hx) (fun z => by cases z) hy))
  | own i =>
    have w' : Wants K E (RepXn K) F G σ Q (match toVal ρ (.own i) with
      | some (d, ρ2) => (T ρ2).bind fun as ρ3 => .ok (.val d :: as) ρ3
      | none => .stuck) := w
    cases e : toVal ρ (.own i) with
    | none => rw [e] at w'; exact w'.elim
    | some p =>
      obtain ⟨d, ρ2⟩ := p
      rw [e] at w'
      dsimp only at w'
      obtain ⟨G1, R1, s1, r1⟩ := R.toVal hx e
      exact ht F G1 H σ ρ2 _ R1 ((w'.mono s1).bind fun ys b G2 H2 ρ2 R2 s2 hy w2 => w2 _ G2 H2 R2 (Same.refl G2) (.cons (Rep.mono s2 r1) (fun z => by cases z) hy))
  | new o =>
    obtain ⟨p, rfl, h0, hg, ho, n⟩ := hx
    obtain ⟨u, hu⟩ := ho.ex
    have R1 := R.hold hu h0 hg n
    have hg0 : F.G0 p = none := none_of R.g0 hg
    have hl := R.noL h0
    have hm := R.noM h0
    have back : ∀ {G2 H2 : Hp} {ρ2 : En}, Rl K (F.hold p u) G2 H2 σ ρ2 → Rl K F G2 H2 σ ρ2 := fun R2 => R2.unhold h0 hl hm
    refine ht (F.hold p u) G H σ ρ _ R1 ?_
    -- what is wanted in the frame in which p is held
    have w' : Wants K E (RepXn K) F G σ Q ((T ρ).bind fun as ρ2 => .ok (.new o :: as) ρ2) := w
    cases e : T ρ with
    | ok b ρ2 =>
      rw [e] at w'
      intro ys G2 H2 R2 s2 hy
      have hH := R2.heldH hm
      refine w' _ G2 H2 (back R2) s2 (.cons ⟨p, rfl, h0, R2.heldG hg0, ho.mono s2 (fun x ex => by rw [hu] at ex; cases ex; exact hH), R2.heldN⟩ (fun _ j y hj hn => ?_) (hy.unhold h0))
      obtain ⟨v, h1, h2⟩ := hy.get hj
      cases y with
      | new o' =>
        obtain ⟨q, rfl, g0, _⟩ := h2
        rw [h1]
        intro z
        cases z
        rw [show (F.hold p u).H0 p = some u from upd_same] at g0
        cases g0
      | val d => cases hn
      | own i => cases hn
    | err x ρ2 =>
      rw [e] at w'
      exact fun c od G2 H2 R2 s2 hx => w' c od G2 H2 (back R2) s2 hx
    | stuck =>
      rw [e] at w'
      exact w'
@[simp] def puts : List Nat → List X → En → SR
  | [], [], ρ => .nx ρ
  | i :: is, .val d :: xs, ρ => if freeAt ρ i then puts is xs (ρ.set i (.val d)) else .stuck
  | i :: is, .new o :: xs, ρ => if freeAt ρ i then puts is xs (ρ.set i (.own o)) else .stuck
  | _, _, _ => .stuck
def setsV : L2.St → List Nat → List V → L2.St
  | σ, i :: is, v :: vs => setsV (σ.set i (some v)) is vs
  | σ, _, _ => σ
theorem RepXn.put {i : Nat} {v : V} {s : Slot} (hs : ∀ o, s = .own o → ∃ a, v = .ref a) (hv : ∀ o, s = .own o → True) (hl : i < ρ.length) (hl' : i < σ.length) : ∀ {vs : List V} {xs : List X}, RepXn K F G H σ ρ vs xs → (∀ o, s = .own o → ∀ (j : Nat) (y : X), xs[j]? = some y → newAt y = true → vs[j]? ≠ some v) → (∀ (j : Nat) (y : X), xs[j]? = some y → ∀ k, y ≠ .own k) → RepXn K F G H (σ.set i (some v)) (ρ.set i s) vs xs
  | _, _, .nil, _, _ => .nil
  | w :: vs, x :: xs, .cons h n r, q, no => by
    refine .cons ?_ n (r.put hs hv hl hl' (fun o e j y hj hn => q o e (j + 1) y (by simpa using hj) hn) (fun j y hj => no (j + 1) y (by simpa using hj)))
    cases x with
    | val d => exact h
    | own k => exact absurd rfl (no 0 _ rfl k)
    | new o =>
      obtain ⟨a, rfl, h0, hg, ho, nn⟩ := h
      refine ⟨a, rfl, h0, hg, ho, fun j u hj z => ?_⟩
      rcases getset hj with ⟨rfl, e, _⟩ | ⟨ne, hj⟩
      · rw [List.getElem?_set_self hl'] at z
        cases z
        exact q u e 0 _ rfl rfl rfl
      · rw [List.getElem?_set_ne ne] at z
        exact nn j u hj z
theorem puts_no {D : Ends} : ∀ {is : List Nat} {xs : List X} {ρ : En}, WS K E F D (puts is xs ρ) → ∀ (j : Nat) (y : X), xs[j]? = some y → ∀ k, y ≠ .own k
  | _, [], _, _ => fun j y hj => by simp at hj
  | [], _ :: _, _, w => by unfold puts at w; exact w.elim
  | _ :: _, .own _ :: _, _, w => by unfold puts at w; exact w.elim
  | i :: is, .val d :: xs, ρ, w => by
    unfold puts at w
    split at w
    · intro j y hj k e
      cases j with
      | zero => simp at hj; rw [← hj] at e; cases e
      | succ j => exact puts_no w j y (by simpa using hj) k e
    · exact w.elim
  | i :: is, .new o :: xs, ρ, w => by
    unfold puts at w
    split at w
    · intro j y hj k e
      cases j with
      | zero => simp at hj; rw [← hj] at e; cases e
      | succ j => exact puts_no w j y (by simpa using hj) k e
    · exact w.elim
theorem puts_run {D : Ends} : ∀ {is : List Nat} {vs : List V} {xs : List X} {σ : L2.St} {ρ : En}, Rl K F G H σ ρ → RepXn K F G H σ ρ vs xs → WS K E F D (puts is xs ρ) → D.nx (setsV σ is vs) H
  | [], [], [], σ, ρ, R, .nil, w => w σ G H R
  | [], _ :: _, _ :: _, σ, ρ, R, .cons .., w => by unfold puts at w; exact w.elim
  | _ :: _, [], [], σ, ρ, R, .nil, w => by unfold puts at w; exact w.elim
  | i :: is, v :: vs, .own k :: xs, σ, ρ, R, .cons .., w => by unfold puts at w; exact w.elim
  | i :: is, v :: vs, .val d :: xs, σ, ρ, R, .cons h n r, w => by
    unfold puts at w
    split at w
    · rename_i hf
      have hl := freeAt_lt hf
      show D.nx (setsV (σ.set i (some v)) is vs) H
      exact puts_run (R.put (s := .val d) hf ⟨v, rfl, h⟩ rfl fun o e => nomatch e) (r.put (s := .val d) (fun o e => nomatch e) (fun o e => trivial) hl (R.lt hl) (fun o e => nomatch e) (puts_no w)) w
    · exact w.elim
  | i :: is, v :: vs, .new o :: xs, σ, ρ, R, .cons h n r, w => by
    unfold puts at w
    split at w
    · rename_i hf
      have hl := freeAt_lt hf
      obtain ⟨a, rfl, h0, hg, ho, nn⟩ := h
      show D.nx (setsV (σ.set i (some (V.ref a))) is vs) H
      exact puts_run (R.put (s := .own o) hf ⟨a, rfl, h0, hg, ho⟩ rfl fun o e j o' hj hr => nn j o' hr) (r.put (s := .own o) (fun o e => ⟨a, rfl⟩) (fun o e => trivial) hl (R.lt hl) (fun _ _ j y hj hn => n rfl j y hj hn) (puts_no w)) w
    · exact w.elim
def sMulti (is : List Nat) (T : En → Res (List X)) : En → SR := fun ρ => (T ρ).sb fun xs ρ1 => puts is xs ρ1
theorem puts_len {D : Ends} : ∀ {is : List Nat} {xs : List X} {ρ : En}, WS K E F D (puts is xs ρ) → xs.length = is.length
  | [], [], _, _ => rfl
  | [], _ :: _, _, w => by unfold puts at w; exact w.elim
  | _ :: _, [], _, w => by unfold puts at w; exact w.elim
  | _ :: _, .own _ :: _, _, w => by unfold puts at w; exact w.elim
  | i :: is, .val d :: xs, ρ, w => by
    unfold puts at w
    split at w
    · rw [List.length_cons, List.length_cons, puts_len w]
    · exact w.elim
  | i :: is, .new d :: xs, ρ, w => by
    unfold puts at w
    split at w
    · rw [List.length_cons, List.length_cons, puts_len w]
    · exact w.elim
theorem RepXn.len : ∀ {vs : List V} {xs : List X}, RepXn K F G H σ ρ vs xs → vs.length = xs.length
  | _, _, .nil => rfl
  | _, _, .cons _ _ r => by rw [List.length_cons, List.length_cons, r.len]
theorem len2 {α : Type} {l : List α} (h : l.length = 2) : ∃ a b, l = [a, b] := by
  match l, h with
  | [a, b], _ => exact ⟨a, b, rfl⟩
theorem len3 {α : Type} {l : List α} (h : l.length = 3) : ∃ a b c, l = [a, b, c] := by
  match l, h with
  | [a, b, c], _ => exact ⟨a, b, c, rfl⟩
theorem L_par {i j : Nat} (ht : LN K E t T) : LS K E (tPar i j t) (sMulti [i, j] T) := by
  intro F G H σ ρ D R w
  refine ht F G H σ ρ _ R (w.sb fun vs xs G1 H1 ρ1 R1 s1 hx w1 => ?_)
  obtain ⟨v, u, rfl⟩ := len2 (hx.len.trans (puts_len w1))
  exact ⟨v, u, rfl, puts_run R1 hx w1⟩
theorem L_par3 {i j k : Nat} (ht : LN K E t T) : LS K E (tPar3 i j k t) (sMulti [i, j, k] T) := by
  intro F G H σ ρ D R w
  refine ht F G H σ ρ _ R (w.sb fun vs xs G1 H1 ρ1 R1 s1 hx w1 => ?_)
  obtain ⟨v, u, z, rfl⟩ := len3 (hx.len.trans (puts_len w1))
  exact ⟨v, u, z, rfl, puts_run R1 hx w1⟩
def gNames : List Nat → TGs
  | [] => gNil
  | i :: is => gCons (gName i) (gNames is)
theorem gNames_run {Q : L2.St → Hp → Prop} : ∀ {is : List Nat} {vs : List V} {σ : L2.St}, vs.length = is.length → Q (setsV σ is vs) H → gNames is vs σ H Q
  | [], [], σ, _, q => ⟨rfl, q⟩
  | i :: is, v :: vs, σ, h, q => ⟨v, vs, rfl, gNames_run (by simpa using h) q⟩
theorem L_tupN {is : List Nat} {n : Nat} (ht : LN K E t T) (hn : is.length = n) (hz : n ≤ sizeLine) : LS K E (tAsg (tTup t) (gTup K n (gNames is))) (sMulti is T) := by
  intro F G H σ ρ D R w
  refine ht F G H σ ρ _ R (w.sb fun vs xs G1 H1 ρ1 R1 s1 hx w1 => ?_)
  have hl := hx.len.trans (puts_len w1)
  refine ⟨by rw [hl, hn]; exact hz, fun p np => ⟨p, vs, rfl, .inl (.inl upd_same), by rw [hl, hn], gNames_run hl ?_⟩⟩
  have R2 := R1.laid (o := .tup vs) np
  refine puts_run R2 ?_ w1
  -- what was told stands
  have mv : ∀ {vs : List V} {xs : List X}, RepXn K F G1 H1 σ ρ1 vs xs → ∀ o, RepXn K F G1 (upd H1 p o) σ ρ1 vs xs := by
    intro vs xs h o
    induction h with
    | nil => exact .nil
    | @cons v vs x xs h n r ih =>
      refine .cons ?_ n ih
      cases x with
      | val d => exact h
      | own k => exact h
      | new u =>
        obtain ⟨a, rfl, h0, hg, ho, nn⟩ := h
        refine ⟨a, rfl, h0, hg, ho.mono (Same.refl G1) fun y e => ?_, nn⟩
        rw [upd_ne (ne_of_none e np)]
        exact e
  exact mv hx _
end
end DL
set_option Elab.async false
set_option linter.all false
set_option maxRecDepth 100000
set_option maxHeartbeats 2000000
namespace DL
open PySem PySem.Spec PyProof.Rows L2 DD
section
variable {K : Fg} {E : XK} {F : Fm} {G G' H H' : Hp} {σ σ' : L2.St} {ρ ρ' : En} {ta tb : TE} {A B : En → Res X} {t : TA} {T : En → Res (List X)}
/-- what an iterator hands on, turn by turn, while P holds of the heap -/
structure Its (K : Fg) (P : Hp → Prop) (G1 : Hp) (J : It) (ds : List D) : Prop where
  go : ∀ G H, Same G1 G → Same G H → P H → ∀ i, i < ds.length → J.go i H
  stop : ∀ G H, Same G1 G → Same G H → P H → ∀ i, ds.length ≤ i → J.stop i H
  yld : ∀ F G H σ ρ, Rl K F G H σ ρ → Same G1 G → P H → ∀ i x H', i < ds.length → J.yld i H x H' → ∃ G', Rl K F G' H' σ ρ ∧ Same G G' ∧ (∀ u, Same H u → Same H H' ∨ True) ∧ Same H H' ∧ ∃ d, ds[i]? = some d ∧ Rep K G' x d
abbrev LI (K : Fg) (E : XK) (wi : TI) (S : En → Res (List D)) : Prop := LG K E (fun _ G _ _ _ J ds => Its K (fun _ => True) G J ds) wi S
theorem its_list {G1 : Hp} {a : Addr} {vs : List V} {ds : List D} {P : Hp → Prop} (h : ∀ G H, Same G1 G → Same G H → P H → SqL K H a vs) (r : RepA K G1 vs ds) : Its K P G1 (Itl K a) ds where
  go := fun G H e k p i hi => by
    have hi' : i < vs.length := by rw [r.len]; exact hi
    exact ⟨vs, _, h G H e k p, List.getElem?_eq_getElem hi'⟩
  stop := fun G H e k p i hi => ⟨vs, h G H e k p, by rw [r.len]; exact hi⟩
  yld := fun F G H σ ρ R e p i x H' hi hy => by
    obtain ⟨rfl, hy⟩ := hy
    have hv := hy vs (h G H' e R.gh p)
    obtain ⟨d, h1, h2⟩ := r.get' hv
    exact ⟨G, R, Same.refl G, fun _ _ => .inr trivial, Same.refl _, d, h1, h2.mono e⟩
theorem its_tup {a : Addr} {vs : List V} {ds : List D} {G1 : Hp} (h : SqT K G1 a vs) (r : RepA K G1 vs ds) : Its K (fun _ => True) G1 (Itt K a) ds where
  go := fun G H e k p i hi => by
    have hi' : i < vs.length := by rw [r.len]; exact hi
    exact ⟨vs, _, smTup (e.trans k) h, List.getElem?_eq_getElem hi'⟩
  stop := fun G H e k p i hi => ⟨vs, smTup (e.trans k) h, by rw [r.len]; exact hi⟩
  yld := fun F G H σ ρ R e p i x H' hi hy => by
    obtain ⟨rfl, hy⟩ := hy
    have hv := hy vs (smTup (e.trans R.gh) h)
    obtain ⟨d, h1, h2⟩ := r.get' hv
    exact ⟨G, R, Same.refl G, fun _ _ => .inr trivial, Same.refl _, d, h1, h2.mono e⟩
theorem its_rng {lo : Int} {n : Nat} {G1 : Hp} : Its K (fun _ => True) G1 (Itr lo n) ((List.range n).map fun i => D.int (lo + (i : Nat))) where
  go := fun G H e k p i hi => by
    rw [List.length_map, List.length_range] at hi
    exact hi
  stop := fun G H e k p i hi => by
    rw [List.length_map, List.length_range] at hi
    exact hi
  yld := fun F G H σ ρ R e p i x H' hi hy => by
    obtain ⟨rfl, rfl⟩ := hy
    rw [List.length_map, List.length_range] at hi
    refine ⟨G, R, Same.refl G, fun _ _ => .inr trivial, Same.refl _, D.int (lo + i), ?_, .int _⟩
    rw [List.getElem?_map, List.getElem?_range hi]
    rfl
/-- a list or a tuple, frozen -/
def iSeq (K : Fg) (tl : TE) : TI := fun σ H R => tl σ H fun x H1 => ∃ a, x = .ref a ∧ (((∃ xs, SqL K H1 a xs) ∧ R (Itl K a) H1) ∨ ((∃ xs, SqT K H1 a xs) ∧ R (Itt K a) H1))
theorem pi_seq {X : Cx} {K : Fg} {tg l : Expr} {tl : TE} (hl : PE X l tl) (h : X.K = K := by rfl) : PI X tg l (iSeq K tl) := by
  subst h
  refine ⟨fun pins s σ H R I h => ?_⟩
  refine thn (hl.run pins s σ H _ I h) fun v s1 ⟨x, H1, I1, r1, q1⟩ => ?_
  obtain ⟨a, e, q⟩ := q1
  subst e
  rcases q with ⟨⟨xs, hq⟩, q⟩ | ⟨⟨xs, hq⟩, q⟩
  · cases r1
    obtain ⟨its, rv, p, hz⟩ := I1.list hq
    refine wpAny_pyIter_list p.isList ?_
    refine ⟨s1.heap.objs.size, [s1.heap.objs.size], _, _, H1, rfl, I1.kept (t' := s1.toks) fun b o e => Heap.get?_push_of_some _ e, turn_list a _, ⟨_, Heap.get?_push_size _ rfl, rfl, rfl⟩, fun b hb => ?_, q⟩
    have e : b = s1.heap.objs.size := by simpa using hb
    subst e
    exact I1.fpOk (Nat.le_refl _) (I1.hok.fresh (Nat.le_refl _))
  · cases r1
    obtain ⟨its, rv, p, hz⟩ := I1.tuple hq
    refine wpAny_pyIter_tuple (show s1.heap.IsTuple a its.toArray from p) ?_
    refine ⟨s1.heap.objs.size, [s1.heap.objs.size], _, _, H1, rfl, I1.kept (t' := s1.toks) fun b o e => Heap.get?_push_of_some _ e, turn_tuple a _, ⟨_, Heap.get?_push_size _ rfl, rfl, rfl⟩, fun b hb => ?_, q⟩
    have e : b = s1.heap.objs.size := by simpa using hb
    subst e
    exact I1.fpOk (Nat.le_refl _) (I1.hok.fresh (Nat.le_refl _))
def dRng1 (A : En → Res X) : En → Res (List D) := fun ρ => (A ρ).bind fun a ρ1 => match asI ρ1 a with
  | some j => if -(2 ^ 62) ≤ j ∧ j < 2 ^ 62 then .ok ((List.range j.toNat).map fun i => D.int (0 + (i : Nat))) ρ1 else .stuck
  | none => .stuck
def dRng2 (A B : En → Res X) : En → Res (List D) := fun ρ => (A ρ).bind fun a ρ1 => (B ρ1).bind fun b ρ2 => match asI ρ2 a.settle, asI ρ2 b with
  | some i, some j => if -(2 ^ 62) ≤ i ∧ i < 2 ^ 62 ∧ -(2 ^ 62) ≤ j ∧ j < 2 ^ 62 then .ok ((List.range (j - i).toNat).map fun n => D.int (i + (n : Nat))) ρ2 else .stuck
  | _, _ => .stuck
theorem I_rng1 (ha : LE K E ta A) : LI K E (iRng1 (tCons ta tNil)) (dRng1 A) := by
  intro F G H σ ρ Q R w
  refine ha F G H σ ρ _ R (Wants.bind w fun x a G1 H1 ρ1 R1 s1 hx w1 => ?_)
  cases e : asI ρ1 a with
  | none => rw [e] at w1; exact w1.elim
  | some j =>
    rw [e] at w1
    dsimp only at w1
    split at w1
    · rename_i hc
      exact ⟨j, by rw [R1.asI hx e], hc.1, hc.2, w1 _ G1 H1 R1 (Same.refl G1) its_rng⟩
    · exact w1.elim
theorem I_rng2 (ha : LE K E ta A) (hb : LE K E tb B) : LI K E (iRng2 (tCons ta (tCons tb tNil))) (dRng2 A B) := by
  intro F G H σ ρ Q R w
  refine ha F G H σ ρ _ R (Wants.bind w fun x a G0 H0 ρ0 R0 s0 hx w0 => ?_)
  obtain ⟨G1, R1, s1, hx1⟩ := R0.settle hx
  refine hb F G1 H0 σ ρ0 _ R1 (Wants.bind (w0.mono s1) fun y b G2 H2 ρ2 R2 s2 hy w2 => ?_)
  cases e1 : asI ρ2 a.settle with
  | none => rw [e1] at w2; exact w2.elim
  | some i =>
    cases e2 : asI ρ2 b with
    | none => rw [e1, e2] at w2; exact w2.elim
    | some j =>
      rw [e1, e2] at w2
      dsimp only at w2
      split at w2
      · rename_i hc
        exact ⟨i, j, by rw [R2.asI (hx1.keep settle_no s2) e1, R2.asI hy e2], hc, w2 _ G2 H2 R2 (Same.refl G2) its_rng⟩
      · exact w2.elim
def forL (U : Tg) (B : En → SR) : List D → En → SR
  | [], ρ => .nx ρ
  | d :: ds, ρ => match U d ρ with
    | none => .stuck
    | some ρ1 => match B ρ1 with
      | .nx ρ2 => forL U B ds ρ2
      | .ct ρ2 => forL U B ds ρ2
      | .bk ρ2 => .nx ρ2
      | r => r
theorem WS.back {D : Ends} (R : Rl K F G H σ ρ) : ∀ {r : SR}, WS K E F D r → WS K E (F.at G) D r
  | .nx ρ', w => fun σ' G' H' R' => w σ' G' H' (R.back R')
  | .bk ρ', w => fun σ' G' H' R' => w σ' G' H' (R.back R')
  | .ct ρ', w => fun σ' G' H' R' => w σ' G' H' (R.back R')
  | .rt x ρ', w => fun v σ' G' H' R' hx => w v σ' G' H' (R.back R') hx.at
  | .err x ρ', w => fun c od σ' G' H' R' hx => w c od σ' G' H' (R.back R') hx
  | .stuck, w => w
theorem for_core {u : TS} {U : Tg} {B : En → SR} {g : TG} {vs : List Nat} {D : Ends} {J : It} {ds : List DL.D} {P : Hp → Prop} (hb : LS K E u B) (hg : LTg K vs g U) (R : Rl K F G H σ ρ) (hI : Its K P G J ds)
    (hP : ∀ G' H' σ' ρ', Rl K (F.at G) G' H' σ' ρ' → P H') (w : WS K E F D (forL U B ds ρ)) :
    ∃ W : Nat → Nat → L2.St → Hp → Prop, (∃ m, W 0 m σ H) ∧ ∀ i m σ H, W i m σ H →
      (J.stop i H ∧ D.nx σ H) ∨ (J.go i H ∧ ∃ N : L2.St → Hp → Prop, (∀ σ' H', N σ' H' → ∃ m', m' < m ∧ W (i + 1) m' σ' H') ∧ ∀ x H', J.yld i H x H' → g x σ H' fun σ2 H2 => u { D with nx := N, ct := N, bk := D.nx } σ2 H2) := by
  refine ⟨fun i m σ' H' => ∃ G' ρ', Rl K (F.at G) G' H' σ' ρ' ∧ i + m = ds.length ∧ WS K E (F.at G) D (forL U B (ds.drop i) ρ'), ⟨ds.length, G, ρ, R.at, by omega, w.back R⟩, ?_⟩
  rintro i m σ' H' ⟨G', ρ', R', hm, w'⟩
  cases m with
  | zero =>
    rw [List.drop_eq_nil_of_le (by omega)] at w'
    exact .inl ⟨hI.stop G' H' R'.g0 R'.gh (hP _ _ _ _ R') i (by omega), w' σ' G' H' R'⟩
  | succ m =>
    have hi : i < ds.length := by omega
    rw [List.drop_eq_getElem_cons hi] at w'
    refine .inr ⟨hI.go G' H' R'.g0 R'.gh (hP _ _ _ _ R') i hi, fun σ2 H2 => ∃ G2 ρ2, Rl K (F.at G) G2 H2 σ2 ρ2 ∧ WS K E (F.at G) D (forL U B (ds.drop (i + 1)) ρ2), fun σ2 H2 ⟨G2, ρ2, R2, w2⟩ => ⟨m, by omega, G2, ρ2, R2, by omega, w2⟩, fun x H3 hy => ?_⟩
    obtain ⟨G3, R3, s3, _, k3, d, hd, hr⟩ := hI.yld _ _ _ _ _ R' R'.g0 (hP _ _ _ _ R') i x H3 hi hy
    rw [List.getElem?_eq_getElem hi] at hd
    cases hd
    unfold forL at w'
    cases e : U ds[i] ρ' with
    | none => rw [e] at w'; exact w'.elim
    | some ρ1 =>
      rw [e] at w'
      dsimp only at w'
      refine hg _ _ _ _ _ ρ1 x _ _ R3 hr e fun σ4 R4 _ => hb _ _ _ _ ρ1 _ R4 ?_
      cases e2 : B ρ1 with
      | nx ρ2 => rw [e2] at w'; exact fun σ5 G5 H5 R5 => ⟨G5, ρ2, R5, w'⟩
      | ct ρ2 => rw [e2] at w'; exact fun σ5 G5 H5 R5 => ⟨G5, ρ2, R5, w'⟩
      | bk ρ2 => rw [e2] at w'; exact w'
      | rt y ρ2 => rw [e2] at w'; exact w'
      | err y ρ2 => rw [e2] at w'; exact w'
      | stuck => rw [e2] at w'; exact w'
def sFor (S : En → Res (List D)) (U : Tg) (B : En → SR) : En → SR := fun ρ => (S ρ).sb fun ds ρ1 => forL U B ds ρ1
theorem L_for {wi : TI} {S : En → Res (List D)} {u : TS} {U : Tg} {B : En → SR} {g : TG} {vs : List Nat} (hi : LI K E wi S) (hg : LTg K vs g U) (hb : LS K E u B) : LS K E (tFor wi g u) (sFor S U B) := by
  intro F G H σ ρ D R w
  exact hi F G H σ ρ _ R (w.sb fun J ds G1 H1 ρ1 R1 s1 hI w1 => for_core hb hg R1 hI (fun _ _ _ _ _ => trivial) w1)
@[simp] def unlockE (ρ : En) (i : Nat) : En := match ρ[i]? with
  | some (.lck o) => ρ.set i (.own o)
  | _ => ρ
@[simp] def SR.unlock (i : Nat) : SR → SR
  | .nx ρ => .nx (unlockE ρ i)
  | .bk ρ => .bk (unlockE ρ i)
  | .ct ρ => .ct (unlockE ρ i)
  | .rt x ρ => .rt x (unlockE ρ i)
  | .err x ρ => .err x (unlockE ρ i)
  | .stuck => .stuck
def Fm.lock (F : Fm) (i : Nat) (a : Addr) (o : HO) : Fm := { F with H0 := upd F.H0 a o, L := fun j => if j = i then some a else F.L j }
theorem Rl.lock {i : Nat} {o : O} {u : HO} {a : Addr} (R : Rl K F G H σ ρ) (h : ρ[i]? = some (.own o)) (ha : σ[i]? = some (some (.ref a))) (hu : H a = some u) : Rl K (F.lock i a u) G H σ (ρ.set i (.lck o)) := by
  obtain ⟨b, h1, h0, hg, ho⟩ := R.own h
  rw [ha] at h1
  cases h1
  have hil : i < ρ.length := (List.getElem?_eq_some_iff.mp h).1
  have n : ∀ (j : Nat) (w : O), (ρ.set i (.lck o))[j]? = some (.own w) → σ[j]? ≠ some (some (.ref a)) := fun j w hj z => by
    rcases getset hj with ⟨_, e, _⟩ | ⟨ne, hj⟩
    · cases e
    · exact ne (R.di i j _ _ a h hj ha z)
  have hf : freeAt ρ i = true := by unfold freeAt; rw [h]; rfl
  have eσ : σ.set i (some (.ref a)) = σ := by
    apply List.ext_getElem?
    intro j
    by_cases e : i = j
    · subst e
      rw [List.getElem?_set_self (R.lt hil), ha]
    · rw [List.getElem?_set_ne e]
  have R1 : Rl K F G H σ (ρ.set i .none) := by
    have := R.forget (i := i) (x := some (.ref a)) hf
    rw [eσ] at this
    exact this
  have n1 : ∀ (j : Nat) (w : O), (ρ.set i Slot.none)[j]? = some (.own w) → σ[j]? ≠ some (some (.ref a)) := fun j w hj z => by
    rcases getset hj with ⟨_, e, _⟩ | ⟨ne, hj⟩
    · cases e
    · exact ne (R.di i j _ _ a h hj ha z)
  have R2 := R1.hold hu h0 hg n1
  refine ⟨R2.gh, R2.g0, R2.gn, R2.hk, fun j b hb => ?_, fun j b hb => ?_, fun j s hs => ?_, fun j k w w' b h1 h2 h3 h4 => ?_, R2.mi⟩
  · obtain ⟨g1, g2, w, g3⟩ := R2.hm j b hb
    refine ⟨g1, g2, w, ?_⟩
    by_cases q : i = j
    · subst q
      rw [List.getElem?_set_self hil] at g3
      cases g3
    · rw [List.getElem?_set_ne q] at g3 ⊢
      exact g3
  · by_cases q : j = i
    · subst q
      exact ⟨o, List.getElem?_set_self hil⟩
    · have hb' : F.L j = some b := by
        rw [show (F.lock i a u).L j = if j = i then some a else F.L j from rfl, if_neg q] at hb
        exact hb
      obtain ⟨w, g3⟩ := R.hl j b hb'
      exact ⟨w, by rw [List.getElem?_set_ne (Ne.symm q)]; exact g3⟩
  · rcases getset hs with ⟨rfl, rfl, _⟩ | ⟨ne, hs⟩
    · refine ⟨_, ha, a, u, rfl, ?_, hg, upd_same, R.noM h0, ho⟩
      show (if i = i then some a else F.L i) = some a
      rw [if_pos rfl]
    · obtain ⟨x, g1, g2⟩ := R2.sl j s (by rw [List.getElem?_set_ne ne]; exact hs)
      refine ⟨x, g1, ?_⟩
      cases s with
      | none => trivial
      | val d => exact g2
      | own w => exact g2
      | bor w => exact g2
      | lck w =>
        obtain ⟨b, u', rfl, e2, e3, e5, e6, e4⟩ := g2
        refine ⟨b, u', rfl, ?_, e3, e5, e6, e4⟩
        show (if j = i then some a else F.L j) = some b
        rw [if_neg (Ne.symm ne)]
        exact e2
  · rcases getset h1 with ⟨_, e, _⟩ | ⟨n1, h1'⟩
    · cases e
    · rcases getset h2 with ⟨_, e, _⟩ | ⟨n2, h2'⟩
      · cases e
      · exact R.di j k w w' b h1' h2' h3 h4
theorem Rl.unlock {i : Nat} {u : HO} {a : Addr} (R : Rl K (F.lock i a u) G H σ ρ) (h0 : F.H0 a = none) (hL : F.L i = none) (hl : ∀ j, F.L j ≠ some a) (hm : ∀ j, F.M j ≠ some a) : Rl K F G H σ (unlockE ρ i) ∧ ∃ o, ρ[i]? = some (.lck o) := by
  obtain ⟨o, ho⟩ := R.hl i a (by show (if i = i then some a else F.L i) = some a; rw [if_pos rfl])
  refine ⟨?_, o, ho⟩
  have hil : i < ρ.length := (List.getElem?_eq_some_iff.mp ho).1
  have e : unlockE ρ i = ρ.set i (.own o) := by unfold unlockE; rw [ho]
  rw [e]
  obtain ⟨x, hx, b, u', rfl, hb, hg, hu', hM, hO⟩ := R.sl i _ ho
  have hba : b = a := by
    have : (if i = i then some a else F.L i) = some b := hb
    rw [if_pos rfl] at this
    exact (Option.some.inj this).symm
  subst hba
  have up : ∀ c, c ≠ b → (F.lock i b u).H0 c = F.H0 c := fun c q => upd_ne q
  have nown : ∀ (j : Nat) (w : O), ρ[j]? = some (.own w) → σ[j]? ≠ some (some (.ref b)) := fun j w hj z => by
    obtain ⟨c, g1, g2, _⟩ := R.own hj
    rw [g1] at z
    cases z
    rw [show (F.lock i b u).H0 b = some u from upd_same] at g2
    cases g2
  refine ⟨R.gh, R.g0, fun c w hc hc' => ?_, fun c w hc hc' => R.hk c w (by rw [up c (ne_of_none hc h0)]; exact hc) hc', fun j c hc => ?_, fun j c hc => ?_, fun j s hs => ?_, fun j k w w' c h1 h2 h3 h4 => ?_, R.mi⟩
  · by_cases q : c = b
    · rw [q]; exact h0
    · have := R.gn c w hc hc'
      rw [up c q] at this
      exact this
  · obtain ⟨g1, g2, w, g3⟩ := R.hm j c hc
    refine ⟨g1, ?_, w, ?_⟩
    · rw [up c (fun q => hm j (by rw [← q]; exact hc))] at g2
      exact g2
    · rw [List.getElem?_set_ne (fun q => by rw [← q, ho] at g3; cases g3)]
      exact g3
  · have ne : j ≠ i := fun q => by rw [q, hL] at hc; cases hc
    obtain ⟨w, g⟩ := R.hl j c (by show (if j = i then some b else F.L j) = some c; rw [if_neg ne]; exact hc)
    exact ⟨w, by rw [List.getElem?_set_ne (Ne.symm ne)]; exact g⟩
  · rcases getset hs with ⟨rfl, rfl, _⟩ | ⟨ne, hs⟩
    · exact ⟨_, hx, b, rfl, h0, hg, hO⟩
    · obtain ⟨x, g1, g2⟩ := R.sl j s hs
      refine ⟨x, g1, ?_⟩
      cases s with
      | none => trivial
      | val d => exact g2
      | own w =>
        obtain ⟨c, rfl, e2, e3, e4⟩ := g2
        refine ⟨c, rfl, ?_, e3, e4⟩
        rw [up c (fun q => nown j w hs (by rw [g1, q]))] at e2
        exact e2
      | bor w => exact g2
      | lck w =>
        obtain ⟨c, y, rfl, e2, e3, e5, e6, e4⟩ := g2
        have e2' : F.L j = some c := by
          have : (if j = i then some b else F.L j) = some c := e2
          rw [if_neg (Ne.symm ne)] at this
          exact this
        refine ⟨c, y, rfl, e2', e3, ?_, e6, e4⟩
        rw [up c (fun q => hl j (by rw [← q]; exact e2'))] at e5
        exact e5
  · rcases getset h1 with ⟨rfl, _, _⟩ | ⟨n1, h1'⟩
    · rcases getset h2 with ⟨rfl, _, _⟩ | ⟨n2, h2'⟩
      · rfl
      · rw [hx] at h3
        cases h3
        exact absurd h4 (nown k w' h2')
    · rcases getset h2 with ⟨rfl, _, _⟩ | ⟨n2, h2'⟩
      · rw [hx] at h4
        cases h4
        exact absurd h3 (nown j w h1')
      · exact R.di j k w w' c h1' h2' h3 h4
theorem RepX.unlock {i : Nat} {u : HO} {a : Addr} {v : V} {x : X} (h : RepX K (F.lock i a u) G H σ ρ v x) (h0 : F.H0 a = none) (hx : ∀ o, ρ[i]? = some (.lck o) → ∃ b, σ[i]? = some (some (.ref b)) ∧ b = a) (ho : ∃ o, ρ[i]? = some (.lck o)) : RepX K F G H σ (unlockE ρ i) v x := by
  cases x with
  | val d => exact h
  | own j => exact h
  | new o =>
    obtain ⟨b, rfl, e2, e3, e4, e5⟩ := h
    have q : b ≠ a := fun q => by
      rw [q, show (F.lock i a u).H0 a = some u from upd_same] at e2
      cases e2
    refine ⟨b, rfl, ?_, e3, e4, fun j w hj z => ?_⟩
    · rw [show (F.lock i a u).H0 b = F.H0 b from upd_ne q] at e2
      exact e2
    · obtain ⟨o', ho'⟩ := ho
      have : unlockE ρ i = ρ.set i (.own o') := by unfold unlockE; rw [ho']
      rw [this] at hj
      rcases getset hj with ⟨rfl, _, _⟩ | ⟨ne, hj⟩
      · obtain ⟨c, g1, g2⟩ := hx o' ho'
        rw [g1] at z
        cases z
        exact q g2
      · exact e5 j w hj z
@[simp] def seqOf (A : En → Res X) : En → Res (Option Nat × List D) := fun ρ => (A ρ).bind fun a ρ1 => match a with
  | .val d => lift (d.items.map fun ds => (none, ds)) ρ1
  | .new o => lift (o.d.items.map fun ds => (none, ds)) ρ1
  | .own i => match ρ1[i]? with
    | some (.val d) => lift (d.items.map fun ds => (none, ds)) ρ1
    | some (.own (.lst ds)) => .ok (some i, ds) (ρ1.set i (.lck (.lst ds)))
    | _ => .stuck
def sForS (A : En → Res X) (U : Tg) (B : En → SR) : En → SR := fun ρ => (seqOf A ρ).sb fun p ρ1 => match p.1 with
  | none => forL U B p.2 ρ1
  | some i => (forL U B p.2 ρ1).unlock i
theorem its_rep {v : V} {d : D} {ds : List D} (R : Rl K F G H σ ρ) (h : Rep K G v d) (e : d.items = some ds) : ∃ a, v = .ref a ∧ (((∃ xs, SqL K H a xs) ∧ Its K (fun _ => True) G (Itl K a) ds) ∨ ((∃ xs, SqT K H a xs) ∧ Its K (fun _ => True) G (Itt K a) ds)) := by
  cases h with
  | tup g r => cases e; exact ⟨_, rfl, .inr ⟨⟨_, smTup R.gh g⟩, its_tup g r⟩⟩
  | lst g r =>
    cases e
    exact ⟨_, rfl, .inl ⟨⟨_, .inl (.inl (R.gh _ _ g))⟩, its_list (fun G' H' e k _ => .inl (.inl (k _ _ (e _ _ g)))) r⟩⟩
  | scr g r =>
    cases e
    exact ⟨_, rfl, .inl ⟨⟨_, smLst R.gh g⟩, its_list (fun G' H' e k _ => smLst (e.trans k) g) r⟩⟩
  | _ => cases e
theorem WS.unlock {i : Nat} {u : HO} {a : Addr} {D : Ends} (h0 : F.H0 a = none) (hL : F.L i = none) (hl : ∀ j, F.L j ≠ some a) (hm : ∀ j, F.M j ≠ some a) : ∀ {r : SR}, WS K E F D (r.unlock i) → WS K E (F.lock i a u) D r
  | .nx ρ', w => fun σ' G' H' R' => w σ' G' H' (R'.unlock h0 hL hl hm).1
  | .bk ρ', w => fun σ' G' H' R' => w σ' G' H' (R'.unlock h0 hL hl hm).1
  | .ct ρ', w => fun σ' G' H' R' => w σ' G' H' (R'.unlock h0 hL hl hm).1
  | .rt x ρ', w => fun v σ' G' H' R' hx => w v σ' G' H' (R'.unlock h0 hL hl hm).1 (hx.unlock h0 (fun o ho => by
      obtain ⟨x, g, b, u', rfl, hb, _⟩ := R'.sl i _ ho
      refine ⟨b, g, ?_⟩
      have : (if i = i then some a else F.L i) = some b := hb
      rw [if_pos rfl] at this
      exact (Option.some.inj this).symm) (R'.unlock h0 hL hl hm).2)
  | .err x ρ', w => fun c od σ' G' H' R' hx => w c od σ' G' H' (R'.unlock h0 hL hl hm).1 hx
  | .stuck, w => w
theorem L_forS {u : TS} {U : Tg} {B : En → SR} {g : TG} {vs : List Nat} (ha : LE K E ta A) (hg : LTg K vs g U) (hb : LS K E u B) : LS K E (tFor (iSeq K ta) g u) (sForS A U B) := by
  intro F G H σ ρ D R w
  unfold sForS seqOf at w
  refine ha F G H σ ρ _ R ?_
  -- one source
  have frozen : ∀ {v : V} {d : DL.D} {G1 H1 : Hp} {ρ1 : En}, Rl K F G1 H1 σ ρ1 → Rep K G1 v d → WS K E F D (((lift (d.items.map fun ds => ((none : Option Nat), ds)) ρ1)).sb fun p ρ1 => match p.1 with
      | none => forL U B p.2 ρ1
      | some i => (forL U B p.2 ρ1).unlock i) → ∃ a, v = .ref a ∧ (((∃ xs, SqL K H1 a xs) ∧ ∃ W : Nat → Nat → L2.St → Hp → Prop, (∃ m, W 0 m σ H1) ∧ ∀ i m σ H, W i m σ H → ((Itl K a).stop i H ∧ D.nx σ H) ∨ ((Itl K a).go i H ∧ ∃ N : L2.St → Hp → Prop, (∀ σ' H', N σ' H' → ∃ m', m' < m ∧ W (i + 1) m' σ' H') ∧ ∀ x H', (Itl K a).yld i H x H' → g x σ H' fun σ2 H2 => u { D with nx := N, ct := N, bk := D.nx } σ2 H2)) ∨
        ((∃ xs, SqT K H1 a xs) ∧ ∃ W : Nat → Nat → L2.St → Hp → Prop, (∃ m, W 0 m σ H1) ∧ ∀ i m σ H, W i m σ H → ((Itt K a).stop i H ∧ D.nx σ H) ∨ ((Itt K a).go i H ∧ ∃ N : L2.St → Hp → Prop, (∀ σ' H', N σ' H' → ∃ m', m' < m ∧ W (i + 1) m' σ' H') ∧ ∀ x H', (Itt K a).yld i H x H' → g x σ H' fun σ2 H2 => u { D with nx := N, ct := N, bk := D.nx } σ2 H2))) := by
    intro v d G1 H1 ρ1 R1 hr w1
    cases e : d.items with
    | none => rw [e] at w1; exact w1.elim
    | some ds =>
      rw [e] at w1
      obtain ⟨a, rfl, q⟩ := its_rep R1 hr e
      rcases q with ⟨q1, q2⟩ | ⟨q1, q2⟩
      · exact ⟨a, rfl, .inl ⟨q1, for_core hb hg R1 q2 (fun _ _ _ _ _ => trivial) w1⟩⟩
      · exact ⟨a, rfl, .inr ⟨q1, for_core hb hg R1 q2 (fun _ _ _ _ _ => trivial) w1⟩⟩
  cases e : A ρ with
  | stuck => rw [e] at w; exact w
  | err x ρ1 => rw [e] at w; exact fun c od G2 H2 R2 _ hx => w c od σ G2 H2 R2 hx
  | ok x ρ1 =>
    rw [e] at w
    intro v G1 H1 R1 s1 hx
    have w1 := w
    dsimp only [Res.bind] at w1
    cases x with
    | val d => exact frozen R1 hx w1
    | new o =>
      obtain ⟨G2, R2, s2, r2⟩ := R1.settle hx
      exact frozen R2 r2 w1
    | own i =>
      dsimp only at w1
      cases e2 : ρ1[i]? with
      | none => rw [e2] at w1; exact w1.elim
      | some s =>
        rw [e2] at w1
        cases s with
        | none => exact w1.elim
        | bor o => exact w1.elim
        | lck o => exact w1.elim
        | val d =>
          obtain ⟨v', h1, h2⟩ := R1.val e2
          rw [show σ[i]? = some (some v) from hx] at h1
          cases h1
          exact frozen R1 h2 w1
        | own o =>
          cases o with
          | ins C ks ds => exact w1.elim
          | lst ds =>
            dsimp only at w1
            obtain ⟨a, h1, h0, hg1, ws, h3, h4⟩ := R1.own e2
            rw [show σ[i]? = some (some v) from hx] at h1
            cases h1
            have hL : F.L i = none := by
              cases q : F.L i with
              | none => rfl
              | some b =>
                obtain ⟨o, ho⟩ := R1.hl i b q
                rw [e2] at ho
                cases ho
            have hl := R1.noL h0
            have hm := R1.noM h0
            have R2 := R1.lock e2 hx h3
            have P0 : ∀ G' H' σ' ρ', Rl K ((F.lock i a (.lst ws)).at G1) G' H' σ' ρ' → H' a = some (.lst ws) := fun G' H' σ' ρ' R' => R'.hk a _ upd_same hm
            exact ⟨a, rfl, .inl ⟨⟨ws, .inl (.inl h3)⟩, for_core (P := fun H => H a = some (.lst ws)) hb hg R2 (its_list (fun G' H' _ _ p => .inl (.inl p)) h4) P0 (WS.unlock h0 hL hl hm w1)⟩⟩
end
end DL
set_option Elab.async false
set_option linter.all false
set_option maxRecDepth 100000
set_option maxHeartbeats 2000000
namespace DL
open PySem PySem.Spec PyProof.Rows L2 DD
@[simp] def wipeN (ρ : En) : List Nat → En
  | [] => ρ
  | v :: vs => (wipeN ρ vs).set v .none
section
variable {K : Fg} {E Et Ea : XK} {F : Fm} {G G' G1 H H' : Hp} {σ σ' : L2.St} {ρ ρ' : En}
theorem wipeN_length (ρ : En) : ∀ vs : List Nat, (wipeN ρ vs).length = ρ.length
  | [] => rfl
  | v :: vs => by unfold wipeN; rw [List.length_set, wipeN_length ρ vs]
theorem wipe_get {i : Nat} : ∀ {vs : List Nat}, i ∉ vs → (wipe σ vs)[i]? = σ[i]?
  | [], _ => rfl
  | v :: vs, h => by
    unfold wipe
    rw [List.getElem?_set_ne (fun e => h (by rw [e]; exact List.mem_cons_self ..))]
    exact wipe_get fun z => h (List.mem_cons_of_mem _ z)
theorem wipeN_get {i : Nat} : ∀ {vs : List Nat}, i ∉ vs → (wipeN ρ vs)[i]? = ρ[i]?
  | [], _ => rfl
  | v :: vs, h => by
    unfold wipeN
    rw [List.getElem?_set_ne (fun e => h (by rw [e]; exact List.mem_cons_self ..))]
    exact wipeN_get fun z => h (List.mem_cons_of_mem _ z)
def Wiped (ρ : En) (vs : List Nat) : Prop := ∀ v ∈ vs, ∀ s, ρ[v]? = some s → s = .none
theorem wiped_N : ∀ {vs : List Nat}, Wiped (wipeN ρ vs) vs
  | [] => fun v h => by cases h
  | w :: vs => fun v h s e => by
    unfold wipeN at e
    rcases getset e with ⟨_, e2, _⟩ | ⟨ne, e⟩
    · exact e2.symm
    · rcases List.mem_cons.mp h with rfl | h
      · exact absurd rfl ne
      · exact wiped_N v h s e
theorem wipe_wipe {vs : List Nat} : wipe (wipe σ vs) vs = wipe σ vs := by
  apply List.ext_getElem?
  intro i
  by_cases h : i ∈ vs
  · have z : ∀ (τ : L2.St) (ws : List Nat), i ∈ ws → (wipe τ ws)[i]? = if i < τ.length then some none else none := by
      intro τ ws
      induction ws with
      | nil => intro h; cases h
      | cons w ws ih =>
        intro h
        unfold wipe
        by_cases q : w = i
        · subst q
          by_cases hl : w < τ.length
          · rw [List.getElem?_set_self (by rw [wipe_length]; exact hl), if_pos hl]
          · rw [List.getElem?_eq_none (by rw [List.length_set, wipe_length]; omega), if_neg hl]
        · rw [List.getElem?_set_ne q]
          refine ih ?_
          rcases List.mem_cons.mp h with rfl | h
          · exact absurd rfl q
          · exact h
    rw [z _ _ h, z _ _ h, wipe_length]
  · rw [wipe_get h]
/-- slots that nobody asks of may hold anything -/
theorem Rl.any {vs : List Nat} (R : Rl K F G H σ ρ) (hw : Wiped ρ vs) (e : wipe σ' vs = wipe σ vs) : Rl K F G H σ' ρ := by
  have hl : σ'.length = σ.length := by
    have := congrArg List.length e
    rwa [wipe_length, wipe_length] at this
  have eq : ∀ i, i ∉ vs → σ'[i]? = σ[i]? := fun i h => by
    rw [← wipe_get (σ := σ') h, ← wipe_get (σ := σ) h, e]
  have own : ∀ (i : Nat) (o : O), ρ[i]? = some (.own o) → i ∉ vs := fun i o h z => by
    have := hw i z _ h
    cases this
  refine ⟨R.gh, R.g0, R.gn, R.hk, R.hm, R.hl, fun i s hs => ?_, fun i j o o' a h1 h2 h3 h4 => R.di i j o o' a h1 h2 (by rw [← eq i (own i o h1)]; exact h3) (by rw [← eq j (own j o' h2)]; exact h4), R.mi⟩
  obtain ⟨x, h1, h2⟩ := R.sl i s hs
  by_cases h : i ∈ vs
  · have := hw i h s hs
    subst this
    have hi : i < σ'.length := by rw [hl]; exact (List.getElem?_eq_some_iff.mp h1).1
    exact ⟨_, List.getElem?_eq_getElem hi, trivial⟩
  · exact ⟨x, by rw [eq i h]; exact h1, h2⟩
theorem Rl.wipeN {vs : List Nat} (R : Rl K F G H σ ρ) (hf : vs.all (freeAt ρ) = true) : Rl K F G H σ (wipeN ρ vs) := by
  have free : ∀ v ∈ vs, freeAt ρ v = true := List.all_eq_true.mp hf
  refine ⟨R.gh, R.g0, R.gn, R.hk, fun j a h => ?_, fun j a h => ?_, fun i s hs => ?_, fun i j o o' a h1 h2 h3 h4 => ?_, R.mi⟩
  · obtain ⟨h1, h2, o, h3⟩ := R.hm j a h
    refine ⟨h1, h2, o, ?_⟩
    rw [wipeN_get fun z => ?_]
    · exact h3
    · have := free j z
      unfold freeAt at this
      rw [h3] at this
      cases this
  · obtain ⟨o, h3⟩ := R.hl j a h
    refine ⟨o, ?_⟩
    rw [wipeN_get fun z => ?_]
    · exact h3
    · have := free j z
      unfold freeAt at this
      rw [h3] at this
      cases this
  · by_cases h : i ∈ vs
    · have := wiped_N i h s hs
      subst this
      have hi : i < ρ.length := by rw [← wipeN_length ρ vs]; exact (List.getElem?_eq_some_iff.mp hs).1
      exact ⟨_, List.getElem?_eq_getElem (R.lt hi), trivial⟩
    · rw [wipeN_get h] at hs
      exact R.sl i s hs
  · have n1 : i ∉ vs := fun z => by cases wiped_N i z _ h1
    have n2 : j ∉ vs := fun z => by cases wiped_N j z _ h2
    rw [wipeN_get n1] at h1
    rw [wipeN_get n2] at h2
    exact R.di i j o o' a h1 h2 h3 h4
def lcL (vs : List Nat) (U : Tg) (T : En → Res Bool) (A : En → Res X) : List D → En → List D → Res (List D)
  | [], ρ, acc => .ok acc ρ
  | d :: ds, ρ, acc => match U d ρ with
    | none => .stuck
    | some ρ1 => match T ρ1 with
      | .ok true ρ2 => match A ρ2 with
        | .ok x ρ3 => match toVal ρ3 x with
          | some (e, ρ4) => if acc.length < sizeLine ∧ vs.all (freeAt ρ4) = true then lcL vs U T A ds (wipeN ρ4 vs) (acc ++ [e]) else .stuck
          | none => .stuck
        | _ => .stuck
      | .ok false ρ2 => if vs.all (freeAt ρ2) = true then lcL vs U T A ds (wipeN ρ2 vs) acc else .stuck
      | _ => .stuck
theorem lc_core_D {vs : List Nat} {U : Tg} {T : En → Res Bool} {A : En → Res X} {g : TG} {tt : TT} {te : TE} {J : It} {ds es : List DL.D} {P : Hp → Prop} {a : Addr} {ρe : En} {Nf : Hp → Prop}
    (hg : LTg K vs g U) (ht : LT K Et tt T) (ha : LE K Ea te A) (h0 : F.H0 a = none) (hg0 : F.G0 a = none) (hl : ∀ i, F.L i ≠ some a) (hm : ∀ i, F.M i ≠ some a)
    (hI : Its K P G1 J ds) (hP : ∀ G' H' acc ρ', Rl K (F.hold a (.lst acc)) G' H' σ ρ' → Same G1 G' → P H')
    (fin : ∀ G H acc, Rl K (F.hold a (.lst acc)) G H σ ρe → Same G1 G → RepA K G acc es → Nf H)
    {G H : Hp} {ρ : En} {acc : List V} {accd : List DL.D} (R : Rl K (F.hold a (.lst acc)) G H σ ρ) (sG : Same G1 G) (hw : Wiped ρ vs) (hr : RepA K G acc accd) (w : lcL vs U T A ds ρ accd = .ok es ρe) :
    ∃ W : Nat → Nat → Hp → Prop, (∃ m, W 0 m H) ∧ ∀ i m H, W i m H → (J.stop i H ∧ Nf H) ∨ (J.go i H ∧ ∃ Nx : Hp → Prop, (∀ H', Nx H' → ∃ m', m' < m ∧ W (i + 1) m' H') ∧ ∀ x H', J.yld i H x H' → g x (wipe σ vs) H' fun σ2 H2 => wipe σ2 vs = wipe σ vs ∧ tt σ2 H2 fun b H3 =>
      if b = true then te σ2 H3 fun y H4 => ∃ acc, H4 a = some (.lst acc) ∧ acc.length < sizeLine ∧ Nx (upd H4 a (.lst (acc ++ [y]))) else Nx H3) := by
  refine ⟨fun i m H' => ∃ G' ρ' acc' accd', Rl K (F.hold a (.lst acc')) G' H' σ ρ' ∧ Same G1 G' ∧ Wiped ρ' vs ∧ RepA K G' acc' accd' ∧ i + m = ds.length ∧ lcL vs U T A (ds.drop i) ρ' accd' = .ok es ρe, ⟨ds.length, G, ρ, acc, accd, R, sG, hw, hr, by omega, w⟩, ?_⟩
  rintro i m H' ⟨G', ρ', acc', accd', R', s', hw', hr', hmm, w'⟩
  cases m with
  | zero =>
    rw [List.drop_eq_nil_of_le (by omega)] at w'
    cases w'
    exact .inl ⟨hI.stop G' H' s' R'.gh (hP _ _ _ _ R' s') i (by omega), fin G' H' acc' R' s' hr'⟩
  | succ m =>
    have hi : i < ds.length := by omega
    rw [List.drop_eq_getElem_cons hi] at w'
    refine .inr ⟨hI.go G' H' s' R'.gh (hP _ _ _ _ R' s') i hi, fun H2 => ∃ G2 ρ2 acc2 accd2, Rl K (F.hold a (.lst acc2)) G2 H2 σ ρ2 ∧ Same G1 G2 ∧ Wiped ρ2 vs ∧ RepA K G2 acc2 accd2 ∧ lcL vs U T A (ds.drop (i + 1)) ρ2 accd2 = .ok es ρe,
      fun H2 ⟨G2, ρ2, acc2, accd2, R2, s2, q1, q2, q3⟩ => ⟨m, by omega, G2, ρ2, acc2, accd2, R2, s2, q1, q2, by omega, q3⟩, fun x H3 hy => ?_⟩
    have Rw : Rl K (F.hold a (.lst acc')) G' H' (wipe σ vs) ρ' := R'.any hw' wipe_wipe
    obtain ⟨G3, R3, s3, _, k3, d, hd, hrd⟩ := hI.yld _ _ _ _ _ Rw s' (hP _ _ _ _ R' s') i x H3 hi hy
    rw [List.getElem?_eq_getElem hi] at hd
    cases hd
    unfold lcL at w'
    cases e : U ds[i] ρ' with
    | none => rw [e] at w'; cases w'
    | some ρ1 =>
      rw [e] at w'
      dsimp only at w'
      refine hg _ _ _ _ _ ρ1 x _ _ R3 hrd e fun σ4 R4 w4 => ⟨w4.trans wipe_wipe, ?_⟩
      have w4' : wipe σ vs = wipe σ4 vs := (w4.trans wipe_wipe).symm
      refine ht _ G3 H3 σ4 ρ1 _ R4 ?_
      cases e2 : T ρ1 with
      | stuck => rw [e2] at w'; cases w'
      | err y ρ2 => rw [e2] at w'; cases w'
      | ok b ρ2 =>
        rw [e2] at w'
        intro b' G5 H5 R5 s5 eb
        subst eb
        cases b' with
        | false =>
          refine iteF ?_
          dsimp only at w'
          split at w'
          · rename_i hf
            exact ⟨G5, _, acc', accd', (R5.wipeN hf).any wiped_N w4', s'.trans (s3.trans s5), wiped_N, hr'.mono (s3.trans s5), w'⟩
          · cases w'
        | true =>
          refine iteT ?_
          dsimp only at w'
          refine ha _ G5 H5 σ4 ρ2 _ R5 ?_
          cases e3 : A ρ2 with
          | stuck => rw [e3] at w'; cases w'
          | err y ρ3 => rw [e3] at w'; cases w'
          | ok z ρ3 =>
            rw [e3] at w'
            intro y G6 H6 R6 s6 hz
            dsimp only at w'
            cases e4 : toVal ρ3 z with
            | none => rw [e4] at w'; cases w'
            | some p =>
              obtain ⟨ed, ρ4⟩ := p
              rw [e4] at w'
              dsimp only at w'
              split at w'
              · rename_i hc
                obtain ⟨G7, R7, s7, r7⟩ := R6.toVal hz e4
                have sAll := s3.trans (s5.trans (s6.trans s7))
                refine ⟨acc', R7.heldH hm, by rw [hr'.len]; exact hc.1, G7, _, acc' ++ [y], accd' ++ [ed], ((R7.wipeN hc.2).any wiped_N w4').rehold h0 hg0 hl hm, s'.trans sAll, wiped_N, (hr'.mono sAll).app (.one r7), w'⟩
              · cases w'
def lcAll (vs : List Nat) (U : Tg) (T : En → Res Bool) (A : En → Res X) (ds : List D) (ρ : En) : Res X := if vs.all (freeAt ρ) = true then
    match lcL vs U T A ds (wipeN ρ vs) [] with
    | .ok es ρ2 => .ok (.new (.lst es)) ρ2
    | _ => .stuck
  else .stuck
def dLc (S : En → Res (List D)) (vs : List Nat) (U : Tg) (T : En → Res Bool) (A : En → Res X) : En → Res X := fun ρ => (S ρ).bind fun ds ρ1 => lcAll vs U T A ds ρ1
def tdYes : En → Res Bool := fun ρ => .ok true ρ
theorem L_yes : LT K E tYes tdYes := fun F G H σ ρ Q R w => w true G H R (Same.refl G) rfl
theorem lcAll_run {vs : List Nat} {U : Tg} {T : En → Res Bool} {A : En → Res X} {g : TG} {tt : TT} {te : TE} {J : It} {ds : List DL.D} {P : Hp → Prop} {Q : VK} (hg : LTg K vs g U) (ht : LT K Et tt T) (ha : LE K Ea te A)
    (R : Rl K F G H σ ρ) (hI : Its K P G J ds) (hP : ∀ (F' : Fm) G' H' ρ', Rl K F' G' H' σ ρ' → (∀ b o, F.H0 b = some o → F'.H0 b = some o) → F'.M = F.M → P H') (w : Wants K E (RepX K) F G σ Q (lcAll vs U T A ds ρ)) :
    ∀ a, H a = none → ∃ W : Nat → Nat → Hp → Prop, (∃ m, W 0 m (upd H a (.lst []))) ∧ ∀ i m H, W i m H → (J.stop i H ∧ Q (.ref a) H) ∨ (J.go i H ∧ ∃ Nx : Hp → Prop, (∀ H', Nx H' → ∃ m', m' < m ∧ W (i + 1) m' H') ∧ ∀ x H', J.yld i H x H' → g x (wipe σ vs) H' fun σ2 H2 => wipe σ2 vs = wipe σ vs ∧ tt σ2 H2 fun b H3 =>
      if b = true then te σ2 H3 fun y H4 => ∃ acc, H4 a = some (.lst acc) ∧ acc.length < sizeLine ∧ Nx (upd H4 a (.lst (acc ++ [y]))) else Nx H3) := by
  intro a na
  unfold lcAll at w
  split at w
  · rename_i hf
    have h0 := R.fresh na
    have hgG := R.freshG na
    have hg0 : F.G0 a = none := none_of R.g0 hgG
    have hl := R.noL h0
    have hm := R.noM h0
    have n : ∀ (j : Nat) (u : O), (DL.wipeN ρ vs)[j]? = some (.own u) → σ[j]? ≠ some (some (.ref a)) := fun j u hj z => by
      obtain ⟨b, h1, _, _, h4⟩ := (R.wipeN hf).own hj
      rw [h1] at z
      cases z
      obtain ⟨u, e⟩ := h4.ex
      rw [na] at e
      cases e
    have R1 : Rl K (F.hold a (.lst [])) G (upd H a (.lst [])) σ (DL.wipeN ρ vs) := ((R.wipeN hf).laid na).hold upd_same h0 hgG n
    cases e : lcL vs U T A ds (DL.wipeN ρ vs) [] with
    | stuck => rw [e] at w; exact w.elim
    | err x ρ2 => rw [e] at w; exact w.elim
    | ok es ρe =>
      rw [e] at w
      refine lc_core_D hg ht ha h0 hg0 hl hm hI (fun G' H' acc ρ' R' _ => hP _ G' H' ρ' R' (fun b o hb => ?_) rfl) (fun G' H' acc R' s' r' => ?_) R1 (Same.refl G) wiped_N .nil e
      · show upd F.H0 a _ b = some o
        rw [upd_ne (ne_of_none hb h0)]
        exact hb
      · exact w _ G' H' (R'.unhold h0 hl hm) s' ⟨a, rfl, h0, R'.heldG hg0, ⟨acc, R'.heldH hm, r'⟩, R'.heldN⟩
  · exact w.elim
theorem L_lc {wi : TI} {S : En → Res (List D)} {vs : List Nat} {U : Tg} {T : En → Res Bool} {A : En → Res X} {g : TG} {tt : TT} {te : TE} (hi : LI K E wi S) (hg : LTg K vs g U) (ht : LT K Et tt T) (ha : LE K Ea te A) : LE K E (tLc wi g tt te vs) (dLc S vs U T A) := by
  intro F G H σ ρ Q R w
  exact hi F G H σ ρ _ R (Wants.bind w fun J ds G1 H1 ρ1 R1 s1 hI w1 => lcAll_run hg ht ha R1 hI (fun _ _ _ _ _ _ _ => trivial) w1)
@[simp] def Res.unlock {α : Type} (i : Nat) : Res α → Res α
  | .ok a ρ => .ok a (unlockE ρ i)
  | .err x ρ => .err x (unlockE ρ i)
  | .stuck => .stuck
def dLcS (A0 : En → Res X) (vs : List Nat) (U : Tg) (T : En → Res Bool) (A : En → Res X) : En → Res X := fun ρ => (seqOf A0 ρ).bind fun p ρ1 => match p.1 with
  | none => lcAll vs U T A p.2 ρ1
  | some i => (lcAll vs U T A p.2 ρ1).unlock i
theorem Wants.unlock {i : Nat} {u : HO} {a : Addr} {Q : VK} (h0 : F.H0 a = none) (hL : F.L i = none) (hl : ∀ j, F.L j ≠ some a) (hm : ∀ j, F.M j ≠ some a) : ∀ {r : Res X}, Wants K E (RepX K) F G σ Q (r.unlock i) → Wants K E (RepX K) (F.lock i a u) G σ Q r
  | .ok x ρ', w => fun v G' H' R' s' hx => w v G' H' (R'.unlock h0 hL hl hm).1 s' (hx.unlock h0 (fun o ho => by
      obtain ⟨x, g, b, u', rfl, hb, _⟩ := R'.sl i _ ho
      refine ⟨b, g, ?_⟩
      have : (if i = i then some a else F.L i) = some b := hb
      rw [if_pos rfl] at this
      exact (Option.some.inj this).symm) (R'.unlock h0 hL hl hm).2)
  | .err x ρ', w => fun c od G' H' R' s' hx => w c od G' H' (R'.unlock h0 hL hl hm).1 s' hx
  | .stuck, w => w
theorem L_lcS {ta : TE} {A0 : En → Res X} {vs : List Nat} {U : Tg} {T : En → Res Bool} {A : En → Res X} {g : TG} {tt : TT} {te : TE} (h : LE K E ta A0) (hg : LTg K vs g U) (ht : LT K Et tt T) (ha : LE K Ea te A) : LE K E (tLc (iSeq K ta) g tt te vs) (dLcS A0 vs U T A) := by
  intro F G H σ ρ Q R w
  unfold dLcS seqOf at w
  refine h F G H σ ρ _ R ?_
  have frozen : ∀ {v : V} {d : DL.D} {G1 H1 : Hp} {ρ1 : En}, Rl K F G1 H1 σ ρ1 → Rep K G1 v d → Wants K E (RepX K) F G1 σ Q (((lift (d.items.map fun ds => ((none : Option Nat), ds)) ρ1)).bind fun p ρ1 => match p.1 with
      | none => lcAll vs U T A p.2 ρ1
      | some i => (lcAll vs U T A p.2 ρ1).unlock i) → ∃ a, v = .ref a ∧ (((∃ xs, SqL K H1 a xs) ∧ ∀ D, H1 D = none → ∃ W : Nat → Nat → Hp → Prop, (∃ m, W 0 m (upd H1 D (.lst []))) ∧ ∀ i m H, W i m H → ((Itl K a).stop i H ∧ Q (.ref D) H) ∨ ((Itl K a).go i H ∧ ∃ Nx : Hp → Prop, (∀ H', Nx H' → ∃ m', m' < m ∧ W (i + 1) m' H') ∧ ∀ x H', (Itl K a).yld i H x H' → g x (wipe σ vs) H' fun σ2 H2 => wipe σ2 vs = wipe σ vs ∧ tt σ2 H2 fun b H3 =>
        if b = true then te σ2 H3 fun y H4 => ∃ acc, H4 D = some (.lst acc) ∧ acc.length < sizeLine ∧ Nx (upd H4 D (.lst (acc ++ [y]))) else Nx H3)) ∨
        ((∃ xs, SqT K H1 a xs) ∧ ∀ D, H1 D = none → ∃ W : Nat → Nat → Hp → Prop, (∃ m, W 0 m (upd H1 D (.lst []))) ∧ ∀ i m H, W i m H → ((Itt K a).stop i H ∧ Q (.ref D) H) ∨ ((Itt K a).go i H ∧ ∃ Nx : Hp → Prop, (∀ H', Nx H' → ∃ m', m' < m ∧ W (i + 1) m' H') ∧ ∀ x H', (Itt K a).yld i H x H' → g x (wipe σ vs) H' fun σ2 H2 => wipe σ2 vs = wipe σ vs ∧ tt σ2 H2 fun b H3 =>
        if b = true then te σ2 H3 fun y H4 => ∃ acc, H4 D = some (.lst acc) ∧ acc.length < sizeLine ∧ Nx (upd H4 D (.lst (acc ++ [y]))) else Nx H3))) := by
    intro v d G1 H1 ρ1 R1 hr w1
    cases e : d.items with
    | none => rw [e] at w1; exact w1.elim
    | some ds =>
      rw [e] at w1
      obtain ⟨a, rfl, q⟩ := its_rep R1 hr e
      rcases q with ⟨q1, q2⟩ | ⟨q1, q2⟩
      · exact ⟨a, rfl, .inl ⟨q1, lcAll_run hg ht ha R1 q2 (fun _ _ _ _ _ _ _ => trivial) w1⟩⟩
      · exact ⟨a, rfl, .inr ⟨q1, lcAll_run hg ht ha R1 q2 (fun _ _ _ _ _ _ _ => trivial) w1⟩⟩
  cases e : A0 ρ with
  | stuck => rw [e] at w; exact w
  | err x ρ1 => rw [e] at w; exact w
  | ok x ρ1 =>
    rw [e] at w
    intro v G1 H1 R1 s1 hx
    have w1 := w
    dsimp only [Res.bind] at w1
    have w1 := w1.mono s1
    cases x with
    | val d => exact frozen R1 hx w1
    | new o =>
      obtain ⟨G2, R2, s2, r2⟩ := R1.settle hx
      exact frozen R2 r2 (Wants.mono s2 w1)
    | own i =>
      dsimp only at w1
      cases e2 : ρ1[i]? with
      | none => rw [e2] at w1; exact w1.elim
      | some s =>
        rw [e2] at w1
        cases s with
        | none => exact w1.elim
        | bor o => exact w1.elim
        | lck o => exact w1.elim
        | val d =>
          obtain ⟨v', h1, h2⟩ := R1.val e2
          rw [show σ[i]? = some (some v) from hx] at h1
          cases h1
          exact frozen R1 h2 w1
        | own o =>
          cases o with
          | ins C ks ds => exact w1.elim
          | lst ds =>
            dsimp only at w1
            obtain ⟨a, h1, h0, hg1, ws, h3, h4⟩ := R1.own e2
            rw [show σ[i]? = some (some v) from hx] at h1
            cases h1
            have hL : F.L i = none := by
              cases q : F.L i with
              | none => rfl
              | some b =>
                obtain ⟨o, ho⟩ := R1.hl i b q
                rw [e2] at ho
                cases ho
            have hl := R1.noL h0
            have hm := R1.noM h0
            have R2 := R1.lock e2 hx h3
            refine ⟨a, rfl, .inl ⟨⟨ws, .inl (.inl h3)⟩, lcAll_run (P := fun H => H a = some (.lst ws)) hg ht ha R2 (its_list (fun G' H' _ _ p => .inl (.inl p)) h4) (fun F' G' H' ρ' R' k hM => R'.hk a _ (k a _ upd_same) (by rw [hM]; exact hm)) (Wants.unlock h0 hL hl hm w1)⟩⟩
end
end DL
set_option Elab.async false
set_option linter.all false
set_option maxRecDepth 100000
set_option maxHeartbeats 2000000
namespace DL
open PySem PySem.Spec PyProof.Rows L2 DD
/-- what a body hands back -/
inductive Rt where
  | ok (x : X) (ρ : En) | err (x : Xc) (ρ : En) | stuck
def fin : SR → Rt
  | .nx ρ => .ok (.val .non) ρ
  | .rt (.val d) ρ => .ok (.val d) ρ
  | .rt (.new o) ρ => .ok (.new o) ρ
  | .rt (.own i) ρ => match ρ[i]? with
    | some (.val d) => .ok (.val d) ρ
    | some (.own o) => .ok (.new o) ρ
    | _ => .stuck
  | .err x ρ => .err x ρ
  | _ => .stuck
@[simp] def env0 (m : Nat) (ss : List Slot) : En := ss ++ List.replicate (m - ss.length) .none
/-- behind a def: ob is where what it borrowed stands -/
structure Post (K : Fg) (G H : Hp) (ob : Option Addr) (ρ' : En) (G' H' : Hp) : Prop where
  s : Same G G'
  k : Same G' H'
  g : ∀ a o, G' a = some o → G a = none → H a = none
  h : ∀ a o, H a = some o → ob ≠ some a → H' a = some o
  b : ∀ a, ob = some a → ∃ o, ρ'[0]? = some (.bor o) ∧ G' a = none ∧ ObjO K G' H' a o
def RetX (K : Fg) (H G' H' : Hp) (v : V) : X → Prop
  | .val d => Rep K G' v d
  | .new o => ∃ a, v = .ref a ∧ H a = none ∧ G' a = none ∧ ObjO K G' H' a o
  | .own _ => False
def Out (K : Fg) (E : XK) (G H : Hp) (ob : Option Addr) (Q : VK) : Rt → Prop
  | .ok x ρ' => ∀ v G' H', Post K G H ob ρ' G' H' → RetX K H G' H' v x → Q v H'
  | .err x ρ' => ∀ c od G' H', Post K G H ob ρ' G' H' → XRep K G' H' c od x → E c od H'
  | .stuck => False
def spD (K : Fg) (n m : Nat) (T : En → SR) : Sp := fun vs H Q E => ∃ G, Same G H ∧
  ((∃ ds, RepA K G vs ds ∧ vs.length = n ∧ Out K E G H none Q (fin (T (env0 m (ds.map .val))))) ∨
   ∃ a o ws ds, vs = .ref a :: ws ∧ RepA K G ws ds ∧ ws.length + 1 = n ∧ G a = none ∧ ObjO K G H a o ∧ Out K E G H (some a) Q (fin (T (env0 m (.bor o :: ds.map .val)))))
section
variable {P : Program} {w : World} {K : Fg} {mg : Str → Option Value} {base : Heap} {E : XK} {G G' H H' : Hp}
theorem start_get {N : List Str} {vs : List V} {i : Nat} (h : i < N.length) (hn : vs.length ≤ N.length) : ∃ x, (start N vs)[i]? = some x ∧ ∀ v, vs[i]? = some v → x = some v := by
  unfold L2.start
  by_cases hi : i < vs.length
  · refine ⟨some vs[i], ?_, fun v e => ?_⟩
    · rw [List.getElem?_append_left (by simpa using hi), List.getElem?_map, List.getElem?_eq_getElem hi]
      rfl
    · rw [List.getElem?_eq_getElem hi] at e
      cases e
      rfl
  · refine ⟨none, ?_, fun v e => ?_⟩
    · rw [List.getElem?_append_right (by simpa using hi), List.getElem?_replicate, List.length_map, if_pos (by omega)]
    · rw [List.getElem?_eq_none (by omega)] at e
      cases e
theorem env0_get {m i : Nat} {ss : List Slot} {s : Slot} (h : (env0 m ss)[i]? = some s) : ss[i]? = some s ∨ (s = .none ∧ ss.length ≤ i ∧ i < ss.length + (m - ss.length)) := by
  unfold env0 at h
  by_cases hi : i < ss.length
  · rw [List.getElem?_append_left hi] at h
    exact .inl h
  · rw [List.getElem?_append_right (by omega), List.getElem?_replicate] at h
    split at h
    · cases h
      exact .inr ⟨rfl, by omega, by omega⟩
    · cases h
theorem map_val_get {ds : List D} {i : Nat} {s : Slot} (h : (ds.map Slot.val)[i]? = some s) : ∃ d, ds[i]? = some d ∧ s = .val d := by
  rw [List.getElem?_map, Option.map_eq_some_iff] at h
  obtain ⟨d, h1, h2⟩ := h
  exact ⟨d, h1, h2.symm⟩
/-- at the entry, nothing borrowed -/
theorem ent0 {N : List Str} {vs : List V} {ds : List D} (s : Same G H) (r : RepA K G vs ds) (hn : vs.length ≤ N.length) : Rl K ⟨H, G, fun _ => none, fun _ => none⟩ G H (start N vs) (env0 N.length (ds.map .val)) := by
  have hl := r.len
  refine ⟨s, Same.refl G, fun a o h h' => (by rw [show G a = none from h'] at h; cases h), fun a o h _ => h, fun i a h => (nomatch h), fun i a h => (nomatch h), fun i t h => ?_, fun i j o o' a h => ?_, fun i j a h => (nomatch h)⟩
  · rcases env0_get h with h | ⟨rfl, h1, h2⟩
    · obtain ⟨d, h1, rfl⟩ := map_val_get h
      obtain ⟨v, h2, h3⟩ := r.get h1
      have hi : i < vs.length := (List.getElem?_eq_some_iff.mp h2).1
      obtain ⟨x, e1, e2⟩ := start_get (N := N) (vs := vs) (i := i) (by omega) hn
      exact ⟨x, e1, v, e2 v h2, h3⟩
    · rw [List.length_map] at h1 h2
      obtain ⟨x, e1, e2⟩ := start_get (N := N) (vs := vs) (i := i) (by omega) hn
      exact ⟨x, e1, trivial⟩
  · rcases env0_get h with h | ⟨e, _⟩
    · obtain ⟨d, _, e⟩ := map_val_get h
      cases e
    · cases e
theorem ent1 {N : List Str} {a : Addr} {o : O} {vs : List V} {ds : List D} (s : Same G H) (r : RepA K G vs ds) (hn : vs.length + 1 ≤ N.length) (hg : G a = none) (ho : ObjO K G H a o) :
    Rl K ⟨H, G, fun i => if i = 0 then some a else none, fun _ => none⟩ G H (start N (.ref a :: vs)) (env0 N.length (.bor o :: ds.map .val)) := by
  have hl := r.len
  have M0 : ∀ i b, (if i = 0 then some a else none) = some b → i = 0 ∧ b = a := fun i b h => by
    split at h
    · rename_i e
      exact ⟨e, (Option.some.inj h).symm⟩
    · cases h
  refine ⟨s, Same.refl G, fun a o h h' => (by rw [show G a = none from h'] at h; cases h), fun a o h _ => h, fun i b h => ?_, fun i a h => (nomatch h), fun i t h => ?_, fun i j u u' b h => ?_, fun i j b h h' => (M0 i b h).1.trans (M0 j b h').1.symm⟩
  · obtain ⟨rfl, rfl⟩ := M0 i b h
    obtain ⟨u, e⟩ := ho.ex
    have hn : H b ≠ none := by rw [e]; exact fun z => (nomatch z)
    exact ⟨hn, hn, o, rfl⟩
  · rcases env0_get h with h | ⟨rfl, h1, h2⟩
    · cases i with
      | zero =>
        simp at h
        subst h
        obtain ⟨x, e1, e2⟩ := start_get (N := N) (vs := .ref a :: vs) (i := 0) (by omega) (by simpa using hn)
        exact ⟨x, e1, a, e2 _ rfl, rfl, hg, ho⟩
      | succ i =>
        obtain ⟨d, h1, rfl⟩ := map_val_get (i := i) (by simpa using h)
        obtain ⟨v, h2, h3⟩ := r.get h1
        have hi : i < vs.length := (List.getElem?_eq_some_iff.mp h2).1
        obtain ⟨x, e1, e2⟩ := start_get (N := N) (vs := .ref a :: vs) (i := i + 1) (by omega) (by simpa using hn)
        exact ⟨x, e1, v, e2 v (by simpa using h2), h3⟩
    · rw [List.length_cons, List.length_map] at h1 h2
      obtain ⟨x, e1, e2⟩ := start_get (N := N) (vs := .ref a :: vs) (i := i) (by omega) (by simpa using hn)
      exact ⟨x, e1, trivial⟩
  · rcases env0_get h with h | ⟨e, _⟩
    · cases i with
      | zero => simp at h
      | succ i =>
        have h' : (ds.map Slot.val)[i]? = some (.own u) := h
        obtain ⟨d, _, e⟩ := map_val_get h'
        cases e
    · cases e
theorem post0 {σ : L2.St} {ρ' : En} (R : Rl K ⟨H, G, fun _ => none, fun _ => none⟩ G' H' σ ρ') : Post K G H none ρ' G' H' :=
  ⟨R.g0, R.gh, R.gn, fun a o h _ => R.hk a o h (fun _ z => (nomatch z)), fun a h => (nomatch h)⟩
theorem post1 {a : Addr} {σ : L2.St} {ρ' : En} (R : Rl K ⟨H, G, fun i => if i = 0 then some a else none, fun _ => none⟩ G' H' σ ρ') : Post K G H (some a) ρ' G' H' := by
  refine ⟨R.g0, R.gh, R.gn, fun b o h n => R.hk b o h fun i z => n ?_, fun b h => ?_⟩
  · have z' : (if i = 0 then some a else none) = some b := z
    split at z'
    · exact z'
    · cases z'
  · cases h
    obtain ⟨_, _, o, ho⟩ := R.hm 0 a rfl
    obtain ⟨c, h1, h2, h3, h4⟩ := R.bor ho
    have : c = a := (Option.some.inj (show some a = some c from h2)).symm
    subst this
    exact ⟨o, ho, h3, h4⟩
theorem out_ws {F : Fm} {ob : Option Addr} {Q : VK} {D : Ends} (hF : F.H0 = H) (hp : ∀ {σ : L2.St} {ρ' : En} {G' H' : Hp}, Rl K F G' H' σ ρ' → Post K G H ob ρ' G' H') (hD : ∀ σ H', Q .non H' → D.nx σ H') (hr : ∀ v H', Q v H' → D.rt v H') : ∀ {r : SR}, Out K E G H ob Q (fin r) → WS K E F D r
  | .nx ρ', o => fun σ G' H' R => hD _ _ (o .non G' H' (hp R) .non)
  | .rt (.val d) ρ', o => fun v σ G' H' R hx => hr _ _ (o v G' H' (hp R) hx)
  | .rt (.new u) ρ', o => fun v σ G' H' R hx => hr _ _ (o v G' H' (hp R) (by
      obtain ⟨a, e, h0, hg, ho, _⟩ := hx
      rw [hF] at h0
      exact ⟨a, e, h0, hg, ho⟩))
  | .rt (.own i) ρ', o => fun v σ G' H' R hx => by
    simp only [fin] at o
    split at o
    · rename_i d e
      obtain ⟨v', h1, h2⟩ := R.val e
      rw [show σ[i]? = some (some v) from hx] at h1
      cases h1
      exact hr _ _ (o v G' H' (hp R) h2)
    · rename_i u e
      obtain ⟨a, h1, h0, hg, ho⟩ := R.own e
      rw [show σ[i]? = some (some v) from hx] at h1
      cases h1
      rw [hF] at h0
      exact hr _ _ (o _ G' H' (hp R) ⟨a, rfl, h0, hg, ho⟩)
    · exact o.elim
  | .err x ρ', o => fun c od σ G' H' R hx => o c od G' H' (hp R) hx
  | .bk ρ', o => o.elim
  | .ct ρ', o => o.elim
  | .stuck, o => o.elim
theorem spD_run {n : Nat} {N : List Str} {T : En → SR} {t : TS} {vs : List V} {Q : VK} (hN : n ≤ N.length) (h : LS K E t T) (hs : spD K n N.length T vs H Q E) : t { nx := fun _ H' => Q .non H', rt := Q } (start N vs) H := by
  obtain ⟨G, s, hs⟩ := hs
  rcases hs with ⟨ds, r, hn, o⟩ | ⟨a, u, ws, ds, rfl, r, hn, hg, ho, o⟩
  · exact h _ G H _ _ _ (ent0 s r (by omega)) (out_ws rfl post0 (fun _ _ q => q) (fun _ _ q => q) o)
  · exact h _ G H _ _ _ (ent1 s r (by omega) hg ho) (out_ws rfl post1 (fun _ _ q => q) (fun _ _ q => q) o)
theorem spD_len {n m : Nat} {T : En → SR} {vs : List V} {Q : VK} (hs : spD K n m T vs H Q E) : vs.length = n := by
  obtain ⟨G, s, hs⟩ := hs
  rcases hs with ⟨ds, r, hn, o⟩ | ⟨a, u, ws, ds, rfl, r, hn, hg, ho, o⟩
  · exact hn
  · rw [List.length_cons]; exact hn
end
section
variable {K : Fg} {E : XK} {F : Fm} {G G' H H' : Hp} {σ : L2.St} {ρ ρ' : En}
theorem Rl.after {ch : Addr → Prop} (R : Rl K F G H σ ρ) (s : Same G G') (k : Same G' H') (g : ∀ b o, G' b = some o → G b = none → H b = none) (hk : ∀ b o, H b = some o → ¬ ch b → H' b = some o)
    (far : ∀ b, ch b → F.H0 b = none ∧ ∀ (j : Nat) (u : O), ρ[j]? = some (.own u) → σ[j]? ≠ some (some (.ref b))) : Rl K F G' H' σ ρ where
  gh := k
  g0 := R.g0.trans s
  gn := fun b o hb hb' => by
    cases e : G b with
    | some u => exact R.gn b u e hb'
    | none => exact R.fresh (g b o hb e)
  hk := fun b o hb n => hk b o (R.hk b o hb n) fun c => by rw [(far b c).1] at hb; cases hb
  hm := fun i b hb => by
    obtain ⟨h1, h2, h3⟩ := R.hm i b hb
    refine ⟨fun z => ?_, h2, h3⟩
    cases e : H b with
    | none => exact h1 e
    | some u =>
      rw [hk b u e fun c => h2 (far b c).1] at z
      cases z
  hl := R.hl
  sl := fun i t hs => by
    obtain ⟨x, h1, h2⟩ := R.sl i t hs
    refine ⟨x, h1, ?_⟩
    have gone : ∀ b, G b = none → (∃ u, H b = some u) → G' b = none := fun b hb hu => by
      cases e : G' b with
      | none => rfl
      | some o =>
        obtain ⟨u, hu⟩ := hu
        rw [g b o e hb] at hu
        cases hu
    cases t with
    | none => trivial
    | val d =>
      obtain ⟨v, e1, e2⟩ := h2
      exact ⟨v, e1, e2.mono s⟩
    | own u =>
      obtain ⟨b, rfl, e2, e3, e4⟩ := h2
      exact ⟨b, rfl, e2, gone b e3 e4.ex, e4.mono s fun y hy => hk b y hy fun c => (far b c).2 i u hs h1⟩
    | bor u =>
      obtain ⟨b, rfl, e2, e3, e4⟩ := h2
      exact ⟨b, rfl, e2, gone b e3 e4.ex, e4.mono s fun y hy => hk b y hy fun c => (R.hm i b e2).2.1 (far b c).1⟩
    | lck u =>
      obtain ⟨b, y, rfl, e2, e3, e5, e6, e4⟩ := h2
      exact ⟨b, y, rfl, e2, gone b e3 e4.ex, e5, e6, e4.mono s fun z hz => hk b z hz fun c => by rw [(far b c).1] at e5; cases e5⟩
  di := R.di
  mi := R.mi
/-- what slot i holds was lent and has come back -/
theorem Rl.lent {i : Nat} {t t' : Slot} {o : O} {a : Addr} (R : Rl K F G H σ ρ) (h : ρ[i]? = some t) (ht : t.re o = some t') (ha : σ[i]? = some (some (.ref a))) (s : Same G G') (k : Same G' H') (g : ∀ b u, G' b = some u → G b = none → H b = none) (hk : ∀ b u, H b = some u → b ≠ a → H' b = some u)
    (hg : G' a = none) (ho : ObjO K G' H' a o) : Rl K F G' H' σ (ρ.set i t') := by
  have hil : i < ρ.length := (List.getElem?_eq_some_iff.mp h).1
  have ha' : H' a ≠ none := by obtain ⟨u, e⟩ := ho.ex; rw [e]; exact fun z => nomatch z
  have hc : ∀ x, F.H0 a = some x → ∃ j, F.M j = some a := fun x e => by
    rcases re_cases ht with ⟨u0, rfl, rfl⟩ | ⟨u0, rfl, rfl⟩
    · obtain ⟨b, h1, h2, _⟩ := R.own h
      rw [ha] at h1; cases h1; rw [h2] at e; cases e
    · obtain ⟨b, h1, h2, _⟩ := R.bor h
      rw [ha] at h1; cases h1; exact ⟨i, h2⟩
  have gone : ∀ b, G b = none → (∃ u, H b = some u) → G' b = none := fun b hb hu => by
    cases e : G' b with
    | none => rfl
    | some o =>
      obtain ⟨u, hu⟩ := hu
      rw [g b o e hb] at hu
      cases hu
  refine ⟨k, R.g0.trans s, fun b x hb hb' => ?_, fun b x e n => ?_, fun j b e => ?_, fun j b e => ?_, fun j y e => ?_, fun j l w w' b h1 h2 h3 h4 => ?_, R.mi⟩
  · cases e : G b with
    | some u => exact R.gn b u e hb'
    | none => exact R.fresh (g b x hb e)
  · by_cases q : b = a
    · subst q
      obtain ⟨j, z⟩ := hc x e
      exact absurd z (n j)
    · exact hk b x (R.hk b x e n) q
  · obtain ⟨h1, h2, w, h3⟩ := R.hm j b e
    refine ⟨fun z => ?_, h2, ?_⟩
    · by_cases q : b = a
      · rw [q] at z; exact ha' z
      · cases e2 : H b with
        | none => exact h1 e2
        | some u => rw [hk b u e2 q] at z; cases z
    · by_cases q : i = j
      · subst q
        rw [h] at h3
        rcases re_cases ht with ⟨u0, rfl, rfl⟩ | ⟨u0, rfl, rfl⟩
        · cases h3
        · exact ⟨o, List.getElem?_set_self hil⟩
      · rw [List.getElem?_set_ne q]
        exact ⟨w, h3⟩
  · obtain ⟨w, h3⟩ := R.hl j b e
    by_cases q : i = j
    · subst q
      rw [h] at h3
      rcases re_cases ht with ⟨u0, rfl, rfl⟩ | ⟨u0, rfl, rfl⟩ <;> cases h3
    · rw [List.getElem?_set_ne q]
      exact ⟨w, h3⟩
  · rcases getset e with ⟨rfl, rfl, _⟩ | ⟨ne, e'⟩
    · refine ⟨_, ha, ?_⟩
      rcases re_cases ht with ⟨u0, rfl, rfl⟩ | ⟨u0, rfl, rfl⟩
      · obtain ⟨b, h1, h2, h3, _⟩ := R.own h
        rw [ha] at h1; cases h1
        exact ⟨_, rfl, h2, hg, ho⟩
      · obtain ⟨b, h1, h2, h3, _⟩ := R.bor h
        rw [ha] at h1; cases h1
        exact ⟨_, rfl, h2, hg, ho⟩
    · obtain ⟨x, h1, h2⟩ := R.sl j y e'
      refine ⟨x, h1, ?_⟩
      cases y with
      | none => trivial
      | val d =>
        obtain ⟨v, e1, e2⟩ := h2
        exact ⟨v, e1, e2.mono s⟩
      | own w =>
        obtain ⟨b, rfl, e2, e3, e4⟩ := h2
        refine ⟨b, rfl, e2, gone b e3 e4.ex, e4.mono s fun y hy => hk b y hy fun q => ?_⟩
        subst q
        rcases re_cases ht with ⟨u0, rfl, rfl⟩ | ⟨u0, rfl, rfl⟩
        · exact ne (R.di i j _ _ b h e' ha h1)
        · obtain ⟨c, g1, g2, _⟩ := R.bor h
          rw [ha] at g1; cases g1
          exact (R.hm i _ g2).2.1 e2
      | bor w =>
        obtain ⟨b, rfl, e2, e3, e4⟩ := h2
        refine ⟨b, rfl, e2, gone b e3 e4.ex, e4.mono s fun y hy => hk b y hy fun q => ?_⟩
        subst q
        rcases re_cases ht with ⟨u0, rfl, rfl⟩ | ⟨u0, rfl, rfl⟩
        · obtain ⟨c, g1, g2, _⟩ := R.own h
          rw [ha] at g1; cases g1
          exact (R.hm j _ e2).2.1 g2
        · obtain ⟨c, g1, g2, _⟩ := R.bor h
          rw [ha] at g1; cases g1
          exact ne (R.mi i j b g2 e2)
      | lck w =>
        obtain ⟨b, y, rfl, e2, e3, e5, e6, e4⟩ := h2
        refine ⟨b, y, rfl, e2, gone b e3 e4.ex, e5, e6, e4.mono s fun z hz => hk b z hz fun q => ?_⟩
        subst q
        obtain ⟨j, z⟩ := hc y e5
        exact e6 j z
  · rcases getset h1 with ⟨rfl, e1, _⟩ | ⟨n1, h1'⟩
    · rcases getset h2 with ⟨rfl, _, _⟩ | ⟨n2, h2'⟩
      · rfl
      · rcases re_cases ht with ⟨u0, rfl, rfl⟩ | ⟨u0, rfl, rfl⟩
        · exact R.di _ _ _ _ b h h2' h3 h4
        · cases e1
    · rcases getset h2 with ⟨rfl, e2, _⟩ | ⟨n2, h2'⟩
      · rcases re_cases ht with ⟨u0, rfl, rfl⟩ | ⟨u0, rfl, rfl⟩
        · exact R.di _ _ _ _ b h1' h h3 h4
        · cases e2
      · exact R.di j l w w' b h1' h2' h3 h4
def callV (r : Rt) (ρ : En) : Res X := match r with
  | .ok x _ => .ok x ρ
  | .err x _ => .err x ρ
  | .stuck => .stuck
theorem retX {v : V} {x : X} (R : Rl K F G H σ ρ) (h : RetX K H G' H' v x) : RepX K F G' H' σ ρ v x := by
  cases x with
  | val d => exact h
  | own i => exact h.elim
  | new o =>
    obtain ⟨a, rfl, h0, hg, ho⟩ := h
    refine ⟨a, rfl, R.fresh h0, hg, ho, fun j u hj z => ?_⟩
    obtain ⟨b, h1, _, _, h4⟩ := R.own hj
    rw [h1] at z
    cases z
    obtain ⟨u, e⟩ := h4.ex
    rw [h0] at e
    cases e
theorem callV_out {Q : VK} {r : Rt} (R : Rl K F G H σ ρ) (w : Wants K E (RepX K) F G σ Q (callV r ρ)) : Out K E G H none Q r := by
  cases r with
  | ok x ρ' =>
    intro v G' H' p hx
    have R' := R.after (ch := fun _ => False) p.s p.k p.g (fun b o h _ => p.h b o h fun z => nomatch z) fun b z => z.elim
    exact w v G' H' R' p.s (retX R hx)
  | err x ρ' =>
    intro c od G' H' p hx
    have R' := R.after (ch := fun _ => False) p.s p.k p.g (fun b o h _ => p.h b o h fun z => nomatch z) fun b z => z.elim
    exact w c od G' H' R' p.s hx
  | stuck => exact w
/-- f(..): all by value -/
def dCall (n m : Nat) (T : En → SR) (A : En → Res (List X)) : En → Res X := fun ρ => (A ρ).bind fun xs ρ1 => match toVals ρ1 xs with
  | some (ds, ρ2) => if ds.length = n then callV (fin (T (env0 m (ds.map .val)))) ρ2 else .stuck
  | none => .stuck
theorem call_sp {n m : Nat} {T : En → SR} {Q : VK} {vs : List V} {ds : List D} (R : Rl K F G H σ ρ) (r : RepA K G vs ds) (hn : ds.length = n) (w : Wants K E (RepX K) F G σ Q (callV (fin (T (env0 m (ds.map .val)))) ρ)) : spD K n m T vs H Q E :=
  ⟨G, R.gh, .inl ⟨ds, r, by rw [r.len, hn], callV_out R w⟩⟩
theorem L_call {n m : Nat} {T : En → SR} {t : TA} {A : En → Res (List X)} (ha : LA K E t A) : LE K E (tCallR (spD K n m T) E t) (dCall n m T A) := by
  refine LG.bind (k := fun vs σ H (Q : VK) => spD K n m T vs H Q E) ha fun F G H σ ρ vs xs Q R hx w => ?_
  cases e : toVals ρ xs with
  | none => rw [e] at w; exact w.elim
  | some p =>
    obtain ⟨ds, ρ2⟩ := p
    rw [e] at w
    dsimp only at w
    obtain ⟨G1, R1, s1, r1⟩ := R.toVals hx e
    split at w
    · rename_i hn
      exact call_sp R1 r1 hn (w.mono s1)
    · exact w.elim
/-- f(x, ..): x in slot i is lent -/
@[simp] def coAt (ρ : En) (i : Nat) : Option O := ρ[i]?.bind Slot.co
@[simp] def reAt (ρ : En) (i : Nat) (o : O) : En := match ρ[i]? with
  | some (.own _) => ρ.set i (.own o)
  | some (.bor _) => ρ.set i (.bor o)
  | _ => ρ
def callB (r : Rt) (i : Nat) (ρ : En) : Res X := match r with
  | .ok x ρ' => match (ρ'[0]? : Option Slot) with
    | some (.bor o) => .ok x (reAt ρ i o)
    | _ => .stuck
  | .err x ρ' => match (ρ'[0]? : Option Slot) with
    | some (.bor o) => .err x (reAt ρ i o)
    | _ => .stuck
  | .stuck => .stuck
def dCallB (n m : Nat) (T : En → SR) (i : Nat) (A : En → Res (List X)) : En → Res X := fun ρ => (A ρ).bind fun xs ρ1 => match toVals ρ1 xs with
  | some (ds, ρ2) => match coAt ρ2 i with
    | some o => if ds.length + 1 = n then callB (fin (T (env0 m (.bor o :: ds.map .val)))) i ρ2 else .stuck
    | none => .stuck
  | none => .stuck
theorem Rl.co {i : Nat} {o : O} (R : Rl K F G H σ ρ) (h : coAt ρ i = some o) : ∃ s a, ρ[i]? = some s ∧ s.co = some o ∧ σ[i]? = some (some (.ref a)) ∧ G a = none ∧ ObjO K G H a o := by
  unfold coAt at h
  cases e : ρ[i]? with
  | none => rw [e] at h; cases h
  | some s =>
    rw [e] at h
    obtain ⟨a, h1, h2, h3⟩ := R.holder e h
    exact ⟨s, a, rfl, h, h1, h2, h3⟩
theorem Rl.lentAt {i : Nat} {o o' : O} {a : Addr} {ρ'' : En} (R : Rl K F G H σ ρ) (h : coAt ρ i = some o) (ha : σ[i]? = some (some (.ref a))) (p : Post K G H (some a) ρ'' G' H') (ho : ρ''[0]? = some (.bor o')) : Rl K F G' H' σ (reAt ρ i o') := by
  obtain ⟨s, b, h1, h2, h3, h4, h5⟩ := R.co h
  rw [ha] at h3
  cases h3
  obtain ⟨u, e1, e2, e3⟩ := p.b a rfl
  rw [ho] at e1
  cases e1
  rcases co_cases h2 with rfl | rfl
  · have e : reAt ρ i o' = ρ.set i (.own o') := by unfold reAt; rw [h1]
    rw [e]
    exact R.lent h1 rfl ha p.s p.k p.g (fun b u hb n => p.h b u hb fun z => n (Option.some.inj z).symm) e2 e3
  · have e : reAt ρ i o' = ρ.set i (.bor o') := by unfold reAt; rw [h1]
    rw [e]
    exact R.lent h1 rfl ha p.s p.k p.g (fun b u hb n => p.h b u hb fun z => n (Option.some.inj z).symm) e2 e3
theorem retX' {v : V} {x : X} {i : Nat} {o o' : O} (R : Rl K F G H σ ρ) (hc : coAt ρ i = some o) (h : RetX K H G' H' v x) : RepX K F G' H' σ (reAt ρ i o') v x := by
  cases x with
  | val d => exact h
  | own i => exact h.elim
  | new u =>
    obtain ⟨a, rfl, h0, hg, ho⟩ := h
    refine ⟨a, rfl, R.fresh h0, hg, ho, fun j w hj z => ?_⟩
    have : ∃ w', ρ[j]? = some (.own w') := by
      obtain ⟨s, b, h1, h2, _⟩ := R.co hc
      unfold reAt at hj
      rw [h1] at hj
      rcases co_cases h2 with rfl | rfl
      · rcases getset hj with ⟨rfl, _, _⟩ | ⟨_, hj⟩
        · exact ⟨_, h1⟩
        · exact ⟨_, hj⟩
      · rcases getset hj with ⟨rfl, e, _⟩ | ⟨_, hj⟩
        · cases e
        · exact ⟨_, hj⟩
    obtain ⟨w', hw⟩ := this
    obtain ⟨b, h1, _, _, h4⟩ := R.own hw
    rw [h1] at z
    cases z
    obtain ⟨u, e⟩ := h4.ex
    rw [h0] at e
    cases e
theorem L_callB {n m i : Nat} {T : En → SR} {t : TA} {A : En → Res (List X)} (ha : LA K E t A) : LE K E (tCallR (spD K n m T) E (tCons (tVar i) t)) (fun ρ => if (coAt ρ i).isSome then dCallB n m T i A ρ else .stuck) := by
  intro F G H σ ρ Q R w
  dsimp only at w
  split at w
  · rename_i hi
    obtain ⟨o0, e0⟩ := Option.isSome_iff_exists.mp hi
    obtain ⟨s, a, h1, h2, h3, h4, h5⟩ := R.co e0
    refine ⟨_, h3, ha F G H σ ρ _ R (w.bind fun vs xs G1 H1 ρ1 R1 s1 hx w1 => ?_)⟩
    cases e : toVals ρ1 xs with
    | none => rw [e] at w1; exact w1.elim
    | some p =>
      obtain ⟨ds, ρ2⟩ := p
      rw [e] at w1
      dsimp only at w1
      obtain ⟨G2, R2, s2, r2⟩ := R1.toVals hx e
      have w2 := w1.mono s2
      cases ec : coAt ρ2 i with
      | none => rw [ec] at w2; exact w2.elim
      | some o =>
        rw [ec] at w2
        dsimp only at w2
        obtain ⟨t', b, g1, g2, g3, g4, g5⟩ := R2.co ec
        rw [h3] at g3
        cases g3
        split at w2
        · rename_i hn
          refine ⟨G2, R2.gh, .inr ⟨a, o, vs, ds, rfl, r2, by rw [r2.len, hn], g4, g5, ?_⟩⟩
          cases er : fin (T (env0 m (.bor o :: ds.map .val))) with
          | ok x ρ' =>
            rw [er] at w2
            intro v G' H' p hx
            obtain ⟨o', e1, _, _⟩ := p.b a rfl
            simp only [callB, e1] at w2
            exact w2 v G' H' (R2.lentAt ec h3 p e1) p.s (retX' R2 ec hx)
          | err x ρ' =>
            rw [er] at w2
            intro c od G' H' p hx
            obtain ⟨o', e1, _, _⟩ := p.b a rfl
            simp only [callB, e1] at w2
            exact w2 c od G' H' (R2.lentAt ec h3 p e1) p.s hx
          | stuck => rw [er] at w2; exact w2
        · exact w2.elim
  · exact w.elim
@[simp] def noF (f : Str) (ks : List Str) : Bool := !ks.contains f
theorem noF_lookup {f : Str} : ∀ {fs : List (Str × V)}, noF f (fs.map (·.1)) = true → fs.lookup f = none
  | [], _ => rfl
  | (k, v) :: fs, h => by
    simp only [noF, List.map_cons, List.contains_cons, Bool.not_or, Bool.and_eq_true, Bool.not_eq_true'] at h
    simp only [List.lookup, h.1]
    exact noF_lookup (by simp only [noF, Bool.not_eq_true']; exact h.2)
def dMeth (C : Addr) (f : Str) (n m : Nat) (T : En → SR) (A : En → Res X) (B : En → Res (List X)) : En → Res X := fun ρ => (A ρ).bind fun a ρ1 => match toVal ρ1 a with
  | some (.ins C' ks es, ρ2) => if C' = C ∧ noF f ks = true then (B ρ2).bind fun xs ρ3 => match toVals ρ3 xs with
      | some (ds, ρ4) => if ds.length + 1 = n then callV (fin (T (env0 m ((D.ins C' ks es :: ds).map .val)))) ρ4 else .stuck
      | none => .stuck
    else .stuck
  | _ => .stuck
theorem L_meth {C : Addr} {f : Str} {n m : Nat} {T : En → SR} {ta : TE} {t : TA} {A : En → Res X} {B : En → Res (List X)} (ha : LE K E ta A) (hb : LA K E t B) : LE K E (DD.tMethR C f (spD K n m T) E ta t) (dMeth C f n m T A B) := by
  refine LG.bind (k := fun x σ H (Q : VK) => ∃ a dx fs, x = .ref a ∧ H a = some (.ins C dx fs) ∧ fs.lookup f = none ∧ t σ H fun vs H2 => spD K n m T (x :: vs) H2 Q E) ha fun F G H σ ρ x a Q R hx w => ?_
  cases e : toVal ρ a with
  | none => rw [e] at w; exact w.elim
  | some p =>
    obtain ⟨d, ρ2⟩ := p
    rw [e] at w
    obtain ⟨G1, R1, s1, r1⟩ := R.toVal hx e
    cases d <;> try exact w.elim
    rename_i C' ks es
    dsimp only at w
    split at w
    · rename_i hc
      obtain ⟨rfl, hf⟩ := hc
      have r1' := r1
      cases r1 with
      | ins h1 h2 h3 =>
        subst h2
        refine ⟨_, _, _, rfl, R1.gh _ _ h1, noF_lookup hf, hb F G1 H σ ρ2 _ R1 ((w.mono s1).bind fun vs xs G2 H2 ρ3 R2 s2 hx2 w2 => ?_)⟩
        cases e2 : toVals ρ3 xs with
        | none => rw [e2] at w2; exact w2.elim
        | some p =>
          obtain ⟨ds, ρ4⟩ := p
          rw [e2] at w2
          dsimp only at w2
          obtain ⟨G3, R3, s3, r3⟩ := R2.toVals hx2 e2
          split at w2
          · rename_i hn
            exact call_sp R3 (.cons (r1'.mono (s2.trans s3)) r3) (by rw [List.length_cons]; exact hn) (w2.mono s3)
          · exact w2.elim
    · exact w.elim
def dProp (C : Addr) (m : Nat) (T : En → SR) (A : En → Res X) : En → Res X := fun ρ => (A ρ).bind fun a ρ1 => match toVal ρ1 a with
  | some (.ins C' ks es, ρ2) => if C' = C then callV (fin (T (env0 m [.val (D.ins C' ks es)]))) ρ2 else .stuck
  | _ => .stuck
theorem L_prop {C : Addr} {m : Nat} {T : En → SR} {ta : TE} {A : En → Res X} (ha : LE K E ta A) : LE K E (tPropR C (spD K 1 m T) E ta) (dProp C m T A) := by
  refine LG.bind (k := fun x σ H (Q : VK) => ∃ a dx fs, x = .ref a ∧ H a = some (.ins C dx fs) ∧ spD K 1 m T [.ref a] H Q E) ha fun F G H σ ρ x a Q R hx w => ?_
  cases e : toVal ρ a with
  | none => rw [e] at w; exact w.elim
  | some p =>
    obtain ⟨d, ρ2⟩ := p
    rw [e] at w
    obtain ⟨G1, R1, s1, r1⟩ := R.toVal hx e
    cases d <;> try exact w.elim
    rename_i C' ks es
    dsimp only at w
    split at w
    · rename_i hc
      subst hc
      have r1' := r1
      cases r1 with
      | ins h1 h2 h3 => exact ⟨_, _, _, rfl, R1.gh _ _ h1, call_sp (ds := [D.ins C' ks es]) R1 (.one r1') rfl (w.mono s1)⟩
    · exact w.elim
def makeV (r : Rt) (ρ : En) : Res X := match r with
  | .ok (.val .non) ρ' => match (ρ'[0]? : Option Slot) with
    | some (.bor o) => .ok (.new o) ρ
    | _ => .stuck
  | .err x _ => .err x ρ
  | _ => .stuck
def dMake (C : Addr) (n m : Nat) (T : En → SR) (A : En → Res (List X)) : En → Res X := fun ρ => (A ρ).bind fun xs ρ1 => match toVals ρ1 xs with
  | some (ds, ρ2) => if ds.length + 1 = n then makeV (fin (T (env0 m (.bor (.ins C [] []) :: ds.map .val)))) ρ2 else .stuck
  | none => .stuck
theorem make_sp {C : Addr} {n m : Nat} {T : En → SR} {Q : VK} {vs : List V} {ds : List D} {x dx : Addr} (R : Rl K F G H σ ρ) (r : RepA K G vs ds) (hn : ds.length + 1 = n) (nx : H x = none) (ndx : H dx = none) (ne : dx ≠ x)
    (w : Wants K E (RepX K) F G σ Q (makeV (fin (T (env0 m (.bor (.ins C [] []) :: ds.map .val)))) ρ)) : spD K n m T (.ref x :: vs) (upd (upd H dx (.own x)) x (.ins C dx [])) (fun v H2 => v = .non ∧ Q (.ref x) H2) E := by
  have R1 := R.laid (o := .own x) ndx
  have nx1 : upd H dx (.own x) x = none := by rw [upd_ne (Ne.symm ne)]; exact nx
  have R2 := R1.laid (o := .ins C dx []) nx1
  have x0 := R.fresh nx
  have far : ∀ b, b = x → F.H0 b = none ∧ ∀ (j : Nat) (u : O), ρ[j]? = some (.own u) → σ[j]? ≠ some (some (.ref b)) := fun b e => by
    subst e
    refine ⟨x0, fun j u hj z => ?_⟩
    obtain ⟨c, h1, _, _, h4⟩ := R.own hj
    rw [h1] at z
    cases z
    obtain ⟨u, e⟩ := h4.ex
    rw [nx] at e
    cases e
  refine ⟨G, R2.gh, .inr ⟨x, .ins C [] [], vs, ds, rfl, r, by rw [r.len, hn], R.freshG nx, ⟨dx, [], upd_same, rfl, .nil⟩, ?_⟩⟩
  cases er : fin (T (env0 m (.bor (.ins C [] []) :: ds.map .val))) with
  | stuck => rw [er] at w; exact w
  | err y ρ' =>
    rw [er] at w
    intro c od G' H' p hx
    have R3 := R2.after (ch := fun b => b = x) p.s p.k p.g (fun b o h n => p.h b o h fun z => n (Option.some.inj z).symm) far
    exact w c od G' H' R3 p.s hx
  | ok y ρ' =>
    rw [er] at w
    intro v G' H' p hx
    have R3 := R2.after (ch := fun b => b = x) p.s p.k p.g (fun b o h n => p.h b o h fun z => n (Option.some.inj z).symm) far
    cases y with
    | own i => exact w.elim
    | new o => exact w.elim
    | val d =>
      cases d <;> try exact w.elim
      cases hx
      obtain ⟨o, e1, e2, e3⟩ := p.b x rfl
      simp only [makeV, e1] at w
      exact ⟨rfl, w _ G' H' R3 p.s ⟨x, rfl, x0, e2, e3, (far x rfl).2⟩⟩
theorem L_make {C : Addr} {n m : Nat} {T : En → SR} {t : TA} {A : En → Res (List X)} (ha : LA K E t A) : LE K E (StX.tMakeR C (spD K n m T) E t) (dMake C n m T A) := by
  refine LG.bind (k := fun vs σ H (Q : VK) => ∀ x dx, H x = none → H dx = none → dx ≠ x → spD K n m T (.ref x :: vs) (upd (upd H dx (.own x)) x (.ins C dx [])) (fun v H2 => v = .non ∧ Q (.ref x) H2) E) ha fun F G H σ ρ vs xs Q R hx w => ?_
  cases e : toVals ρ xs with
  | none => rw [e] at w; exact w.elim
  | some p =>
    obtain ⟨ds, ρ2⟩ := p
    rw [e] at w
    dsimp only at w
    obtain ⟨G1, R1, s1, r1⟩ := R.toVals hx e
    split at w
    · rename_i hn
      exact fun x dx nx ndx ne => make_sp R1 r1 hn nx ndx ne (w.mono s1)
    · exact w.elim
end
end DL
set_option Elab.async false
set_option linter.all false
set_option maxRecDepth 100000
set_option maxHeartbeats 2000000
namespace DL
open PySem PySem.Spec PyProof.Rows L2 DD
@[simp] def D.ty : D → Value
  | .non => .type "NoneType"
  | .bl _ => .type "bool"
  | .int _ => .type "int"
  | .str _ => .type "str"
  | .tup _ => .type "tuple"
  | .lst _ | .scr _ => .type "list"
  | .ins C _ _ => .ref C
  | .cls _ => .none
@[simp] def D.tyOk (Cs : List Addr) : D → Bool
  | .ins C _ _ => Cs.contains C
  | .cls _ => false
  | _ => true
structure TyC (K : Fg) (C : Addr) : Prop where
  cl : Cls K C
  ha : PySem.W.findIn K (.ref C) "__class__" = some (some (.builtin "object.__class__"))
  hn : PySem.W.specialIn K (.builtin "object.__class__") "__get__" = some (some (.builtin "getset_descriptor.__get__"))
  ht : PySem.W.takesIn K (.builtin "object.__class__") = some true
  hm : PySem.W.mroIn K C (.type "object") = some true
abbrev Kit := Value → Value → Option Bool
def KitOk (K : Fg) (kt : Kit) : Prop := ∀ t u b, kt t u = some b → PySem.W.kitOne K t u = some b
def anyK (kt : Kit) (t : Value) : List Value → Option Bool
  | [] => some false
  | u :: us => match kt t u with
    | some true => some true
    | some false => anyK kt t us
    | none => none
section
variable {K : Fg} {E : XK} {F : Fm} {G G' H H' : Hp} {σ : L2.St} {ρ ρ' : En}
theorem anyK_ok {kt : Kit} (hk : KitOk K kt) {t : Value} {b : Bool} : ∀ {us : List Value}, anyK kt t us = some b → PySem.W.kitAny K t us = some b
  | [], e => by cases e; rfl
  | u :: us, e => by
    unfold anyK at e
    cases e1 : kt t u with
    | none => rw [e1] at e; cases e
    | some c =>
      rw [e1] at e
      cases c with
      | true => exact kitAny_cons (hk _ _ _ e1) (fun z => nomatch z) fun _ => by cases e; rfl
      | false => exact kitAny_cons (hk _ _ _ e1) (fun _ => anyK_ok hk e) fun z => nomatch z
theorem ty_rep {Cs : List Addr} (hc : ∀ C ∈ Cs, TyC K C) {v : V} {d : D} (h : Rep K H v d) (ok : d.tyOk Cs = true) : TyX K H v d.ty := by
  cases h with
  | non => exact .base .non
  | bl b => exact .base (.bl b)
  | int i => exact .base (.int i)
  | str x => exact .base (.str x)
  | tup g r =>
    rcases g with (g | ⟨o, g⟩) | ⟨o, its, n, g, c, _⟩
    · exact .base (.tup g)
    · exact .fTuple g
    · exact .kTuple g c
  | lst g r => exact .base (.lst g)
  | scr g r =>
    rcases g with (g | ⟨o, g⟩) | ⟨o, its, n, g, c, _⟩
    · exact .base (.lst g)
    · exact .base (.frz g)
    · exact .kList g c
  | @ins a C dx fs ks ds g k r =>
    have t := hc C (by simpa [D.tyOk] using ok)
    exact .base (.ins g t.cl t.ha t.hn t.ht t.hm)
  | cls C => cases ok
def dIsi (kt : Kit) (Cs : List Addr) (us : List Value) (A : En → Res X) : En → Res X := fun ρ => (A ρ).bind fun a ρ1 => match deref ρ1 a with
  | some d => if d.tyOk Cs = true then lift ((anyK kt d.ty us).map fun b => X.val (.bl b)) ρ1 else .stuck
  | none => .stuck
theorem L_isi {kt : Kit} {Cs : List Addr} {c : V} {u : Value} {ta : TE} {A : En → Res X} (hk : KitOk K kt) (hc : ∀ C ∈ Cs, TyC K C) (hu : ClsV c u) (ha : LE K E ta A) : LE K E (tCB (rIsi K) (tCons ta (tCons (tC c) tNil))) (dIsi kt Cs [u] A) := by
  refine LG.bind (k := fun x σ H (Q : VK) => rIsi K [x, c] H Q) ha fun F G H σ ρ x a Q R hx w => ?_
  cases e : deref ρ a with
  | none => rw [e] at w; exact w.elim
  | some d =>
    rw [e] at w
    dsimp only at w
    split at w
    · rename_i ok
      obtain ⟨z, ez, q⟩ := w.lift
      rw [Option.map_eq_some_iff] at ez
      obtain ⟨b, eb, rfl⟩ := ez
      have e1 : kt d.ty u = some b := by
        unfold anyK at eb
        cases e1 : kt d.ty u with
        | none => rw [e1] at eb; cases eb
        | some c =>
          rw [e1] at eb
          cases c with
          | true => exact eb
          | false => cases eb; rfl
      exact ⟨x, c, d.ty, u, b, rfl, hu, ty_rep hc ((R.deref hx e).rep R.gh) ok, hk _ _ _ e1, q _ G H R (Same.refl G) (.bl _)⟩
    · exact w.elim
def tCs : List V → TA
  | [] => tNil
  | c :: cs => tCons (tC c) (tCs cs)
theorem tCs_run {Q : List V → Hp → Prop} : ∀ {cs : List V}, Q cs H → tCs cs σ H Q
  | [], q => q
  | c :: cs, q => tCs_run (cs := cs) (Q := fun xs H2 => Q (c :: xs) H2) q
theorem L_isiT {kt : Kit} {Cs : List Addr} {cs : List V} {us : List Value} {ta : TE} {A : En → Res X} (hk : KitOk K kt) (hc : ∀ C ∈ Cs, TyC K C) (hu : Paired ClsV cs us) (hz : cs.length ≤ sizeLine) (ha : LE K E ta A) :
    LE K E (tCB (rIsiT K) (tCons ta (tCons (tTup (tCs cs)) tNil))) (dIsi kt Cs us A) := by
  refine LG.bind (k := fun x σ H (Q : VK) => tTup (tCs cs) σ H fun y H2 => rIsiT K [x, y] H2 Q) ha fun F G H σ ρ x a Q R hx w => ?_
  obtain ⟨G1, R1, s1, hx1⟩ := R.settle hx
  have e0 : deref ρ a.settle = deref ρ a := by cases a <;> rfl
  cases e : deref ρ a with
  | none => rw [e] at w; exact w.elim
  | some d =>
    rw [e] at w
    dsimp only at w
    split at w
    · rename_i ok
      obtain ⟨z, ez, q⟩ := w.lift
      rw [Option.map_eq_some_iff] at ez
      obtain ⟨b, eb, rfl⟩ := ez
      refine tCs_run ⟨hz, fun p np => ?_⟩
      have R2 := R1.laid (o := .tup cs) np
      have hx2 : RepX K F G1 (upd H p (.tup cs)) σ ρ x a.settle := hx1.keep settle_no (Same.refl G1)
      exact ⟨x, p, cs, d.ty, us, b, rfl, upd_same, hu, ty_rep hc ((R2.deref hx2 (e0.trans e)).rep R2.gh) ok, anyK_ok hk eb, q _ G1 _ R2 s1 (.bl _)⟩
    · exact w.elim
def callP (p : X → Option X) (r : Rt) (ρ : En) : Res X := match r with
  | .ok x _ => lift (p x) ρ
  | .err x _ => .err x ρ
  | .stuck => .stuck
@[simp] def xStr : X → Option X
  | .val (.str y) => some (.val (.str y))
  | _ => none
@[simp] def xBl : X → Option X
  | .val (.bl y) => some (.val (.bl y))
  | _ => none
@[simp] def xNb : X → Option X
  | .val (.bl y) => some (.val (.bl !y))
  | _ => none
@[simp] def xLen : X → Option X
  | .val (.int i) => if 0 ≤ i ∧ i < 2 ^ 63 then some (.val (.int i)) else none
  | _ => none
def dStrO (C : Addr) (m : Nat) (T : En → SR) (A : En → Res X) : En → Res X := fun ρ => (A ρ).bind fun a ρ1 => match toVal ρ1 a with
  | some (.ins C' ks es, ρ2) => if C' = C then callP xStr (fin (T (env0 m [.val (D.ins C' ks es)]))) ρ2 else .stuck
  | _ => .stuck
def dLenO (C : Addr) (m : Nat) (T : En → SR) (A : En → Res X) : En → Res X := fun ρ => (A ρ).bind fun a ρ1 => match toVal ρ1 a with
  | some (.ins C' ks es, ρ2) => if C' = C then callP xLen (fin (T (env0 m [.val (D.ins C' ks es)]))) ρ2 else .stuck
  | _ => .stuck
def dEqO (p : X → Option X) (C : Addr) (m : Nat) (T : En → SR) (A B : En → Res X) : En → Res X := fun ρ => (A ρ).bind fun a ρ1 => (B ρ1).bind fun b ρ2 => match toVal ρ2 a.settle with
  | some (.ins C' ks es, ρ3) => match toVal ρ3 b.settle with
    | some (.ins C'' ks' es', ρ4) => if C' = C ∧ C'' = C then callP p (fin (T (env0 m [.val (D.ins C' ks es), .val (D.ins C'' ks' es')]))) ρ4 else .stuck
    | _ => .stuck
  | _ => .stuck
theorem Out.mono {ob : Option Addr} {Q Q' : VK} (h : ∀ v H', Q v H' → Q' v H') : ∀ {r : Rt}, Out K E G H ob Q r → Out K E G H ob Q' r
  | .ok x ρ', o => fun v G' H' p hx => h _ _ (o v G' H' p hx)
  | .err x ρ', o => o
  | .stuck, o => o
def lc2L (vs vs1 : List Nat) (U : Tg) (T : En → Res Bool) (S1 : En → Res (List D)) (U1 : Tg) (T1 : En → Res Bool) (A : En → Res X) : List D → En → List D → Res (List D)
  | [], ρ, acc => .ok acc ρ
  | d :: ds, ρ, acc => match U d ρ with
    | none => .stuck
    | some ρ1 => match T ρ1 with
      | .ok true ρ2 => match S1 ρ2 with
        | .ok es ρ3 => if vs1.all (freeAt ρ3) = true then match lcL vs1 U1 T1 A es (wipeN ρ3 vs1) acc with
            | .ok acc' ρ4 => if vs.all (freeAt ρ4) = true then lc2L vs vs1 U T S1 U1 T1 A ds (wipeN ρ4 vs) acc' else .stuck
            | _ => .stuck
          else .stuck
        | _ => .stuck
      | .ok false ρ2 => if vs.all (freeAt ρ2) = true then lc2L vs vs1 U T S1 U1 T1 A ds (wipeN ρ2 vs) acc else .stuck
      | _ => .stuck
def dLc2 (S : En → Res (List D)) (vs vs1 : List Nat) (U : Tg) (T : En → Res Bool) (S1 : En → Res (List D)) (U1 : Tg) (T1 : En → Res Bool) (A : En → Res X) : En → Res X := fun ρ => (S ρ).bind fun ds ρ1 => if vs.all (freeAt ρ1) = true then
    match lc2L vs vs1 U T S1 U1 T1 A ds (wipeN ρ1 vs) [] with
    | .ok es ρ2 => .ok (.new (.lst es)) ρ2
    | _ => .stuck
  else .stuck
theorem L_lc2 {Et Ea Es Et1 : XK} {wi wi1 : TI} {S S1 : En → Res (List D)} {vs vs1 : List Nat} {U U1 : Tg} {T T1 : En → Res Bool} {A : En → Res X} {g g1 : TG} {tt tt1 : TT} {te : TE} (hi : LI K E wi S) (hg : LTg K vs g U) (ht : LT K Et tt T) (hi1 : LI K Es wi1 S1) (hg1 : LTg K vs1 g1 U1) (ht1 : LT K Et1 tt1 T1) (ha : LE K Ea te A) :
    LE K E (tLc2 wi g tt wi1 g1 tt1 te vs vs1) (dLc2 S vs vs1 U T S1 U1 T1 A) := by
  intro F G H σ ρ Q R w
  refine hi F G H σ ρ _ R (Wants.bind w fun J ds G1 H1 ρ1 R1 s1 hI w1 => fun a na => ?_)
  split at w1
  · rename_i hf
    have h0 := R1.fresh na
    have hgG := R1.freshG na
    have hg0 : F.G0 a = none := none_of R1.g0 hgG
    have hl := R1.noL h0
    have hm := R1.noM h0
    have n : ∀ (j : Nat) (u : O), (DL.wipeN ρ1 vs)[j]? = some (.own u) → σ[j]? ≠ some (some (.ref a)) := fun j u hj z => by
      obtain ⟨b, h1, _, _, h4⟩ := (R1.wipeN hf).own hj
      rw [h1] at z
      cases z
      obtain ⟨u, e⟩ := h4.ex
      rw [na] at e
      cases e
    have R2 : Rl K (F.hold a (.lst [])) G1 (upd H1 a (.lst [])) σ (DL.wipeN ρ1 vs) := ((R1.wipeN hf).laid na).hold upd_same h0 hgG n
    cases e : lc2L vs vs1 U T S1 U1 T1 A ds (DL.wipeN ρ1 vs) [] with
    | stuck => rw [e] at w1; exact w1.elim
    | err x ρ2 => rw [e] at w1; exact w1.elim
    | ok es ρe =>
      rw [e] at w1
      refine ⟨fun i m H' => ∃ G' ρ' acc' accd', Rl K (F.hold a (.lst acc')) G' H' σ ρ' ∧ Same G1 G' ∧ Wiped ρ' vs ∧ RepA K G' acc' accd' ∧ i + m = ds.length ∧ lc2L vs vs1 U T S1 U1 T1 A (ds.drop i) ρ' accd' = .ok es ρe, ⟨ds.length, G1, _, [], [], R2, Same.refl G1, wiped_N, .nil, by omega, e⟩, ?_⟩
      rintro i m H' ⟨G', ρ', acc', accd', R', s', hw', hr', hmm, w'⟩
      cases m with
      | zero =>
        rw [List.drop_eq_nil_of_le (by omega)] at w'
        cases w'
        exact .inl ⟨hI.stop G' H' s' R'.gh trivial i (by omega), w1 _ G' H' (R'.unhold h0 hl hm) s' ⟨a, rfl, h0, R'.heldG hg0, ⟨acc', R'.heldH hm, hr'⟩, R'.heldN⟩⟩
      | succ m =>
        have hi : i < ds.length := by omega
        rw [List.drop_eq_getElem_cons hi] at w'
        refine .inr ⟨hI.go G' H' s' R'.gh trivial i hi, fun H2 => ∃ G2 ρ2 acc2 accd2, Rl K (F.hold a (.lst acc2)) G2 H2 σ ρ2 ∧ Same G1 G2 ∧ Wiped ρ2 vs ∧ RepA K G2 acc2 accd2 ∧ lc2L vs vs1 U T S1 U1 T1 A (ds.drop (i + 1)) ρ2 accd2 = .ok es ρe,
          fun H2 ⟨G2, ρ2, acc2, accd2, R2, s2, q1, q2, q3⟩ => ⟨m, by omega, G2, ρ2, acc2, accd2, R2, s2, q1, q2, by omega, q3⟩, fun x H3 hy => ?_⟩
        have Rw : Rl K (F.hold a (.lst acc')) G' H' (wipe σ vs) ρ' := R'.any hw' wipe_wipe
        obtain ⟨G3, R3, s3, _, k3, d, hd, hrd⟩ := hI.yld _ _ _ _ _ Rw s' trivial i x H3 hi hy
        rw [List.getElem?_eq_getElem hi] at hd
        cases hd
        unfold lc2L at w'
        cases e : U ds[i] ρ' with
        | none => rw [e] at w'; cases w'
        | some ρ1 =>
          rw [e] at w'
          dsimp only at w'
          refine hg _ _ _ _ _ ρ1 x _ _ R3 hrd e fun σ4 R4 w4 => ⟨w4.trans wipe_wipe, ?_⟩
          have w4' : wipe σ vs = wipe σ4 vs := (w4.trans wipe_wipe).symm
          refine ht _ G3 H3 σ4 ρ1 _ R4 ?_
          cases e2 : T ρ1 with
          | stuck => rw [e2] at w'; cases w'
          | err y ρ2 => rw [e2] at w'; cases w'
          | ok b ρ2 =>
            rw [e2] at w'
            intro b' G5 H5 R5 s5 eb
            subst eb
            cases b' with
            | false =>
              refine iteF ?_
              dsimp only at w'
              split at w'
              · rename_i hf
                exact ⟨G5, _, acc', accd', (R5.wipeN hf).any wiped_N w4', s'.trans (s3.trans s5), wiped_N, hr'.mono (s3.trans s5), w'⟩
              · cases w'
            | true =>
              refine iteT ?_
              dsimp only at w'
              refine hi1 _ G5 H5 σ4 ρ2 _ R5 ?_
              cases e3 : S1 ρ2 with
              | stuck => rw [e3] at w'; cases w'
              | err y ρ3 => rw [e3] at w'; cases w'
              | ok es1 ρ3 =>
                rw [e3] at w'
                intro J1 G6 H6 R6 s6 hI1
                dsimp only at w'
                split at w'
                · rename_i hf1
                  cases e4 : lcL vs1 U1 T1 A es1 (DL.wipeN ρ3 vs1) accd' with
                  | stuck => rw [e4] at w'; cases w'
                  | err y ρ4 => rw [e4] at w'; cases w'
                  | ok accd2 ρ4 =>
                    rw [e4] at w'
                    dsimp only at w'
                    split at w'
                    · rename_i hf4
                      exact lc_core_D (F := F) (G1 := G6) hg1 ht1 ha h0 hg0 hl hm hI1 (fun _ _ _ _ _ _ => trivial) (fun G7 H7 acc7 R7 s7 r7 => ⟨G7, _, acc7, accd2, (R7.wipeN hf4).any wiped_N w4', s'.trans (s3.trans (s5.trans (s6.trans s7))), wiped_N, r7, w'⟩) (R6.wipeN hf1) (Same.refl G6) wiped_N (hr'.mono (s3.trans (s5.trans s6))) e4
                    · cases w'
                · cases w'
  · exact w1.elim
end
end DL
set_option Elab.async false
set_option linter.all false
set_option maxRecDepth 100000
set_option maxHeartbeats 2000000
namespace DL
open PySem PySem.Spec PyProof.Rows L2 DD
abbrev opSub : D2 := opI fun i j => .int (i - j)
noncomputable abbrev opMul : D2 := opIC CMul fun i j => .int (i * j)
noncomputable abbrev opFdiv : D2 := opIC CDiv fun i j => .int (i / j)
noncomputable abbrev opMod : D2 := opIC (fun _ j => 0 < j) fun i j => .int (i % j)
noncomputable abbrev opPow : D2 := opIC CPow fun i j => .int (i ^ j.toNat)
abbrev opLe : D2 := opI fun i j => .bl (decide (i ≤ j))
abbrev opGt : D2 := opI fun i j => .bl (decide (j < i))
abbrev opGe : D2 := opI fun i j => .bl (decide (j ≤ i))
@[simp] def opNeg : D → Option X
  | .int i => some (.val (.int (-i)))
  | _ => none
def dUn (f : D → Option X) (A : En → Res X) : En → Res X := fun ρ => (A ρ).bind fun a ρ1 => match deref ρ1 a with
  | some d => lift (f d) ρ1
  | none => .stuck
def dLend (n m : Nat) (T : En → SR) (i : Nat) (A : En → Res (List X)) : En → Res X := fun ρ => if (coAt ρ i).isSome then dCallB n m T i A ρ else .stuck
/-- a def that raises nothing -/
def spD0 (K : Fg) (n m : Nat) (T : En → SR) : Sp := fun vs H Q _ => spD K n m T vs H Q E0
/-- the last arguments are the defaults dd -/
@[simp] def fillD (n : Nat) (dd : List D) (ρ : En) : En := env0 ρ.length (ρ.take n ++ dd.map Slot.val)
section
variable {P : Program} {w : World} {K : Fg} {mg : Str → Option Value} {base : Heap} {E : XK} {G H : Hp}
theorem L_lend {n m i : Nat} {T : En → SR} {t : TA} {A : En → Res (List X)} (ha : LA K E t A) : LE K E (tCallR (spD K n m T) E (tCons (tVar i) t)) (dLend n m T i A) := L_callB ha
theorem fill_env {m n : Nat} {ss : List Slot} {dd : List D} (hn : ss.length = n) (hm : n + dd.length ≤ m) : fillD n dd (env0 m ss) = env0 m (ss ++ dd.map Slot.val) := by
  have hl : (env0 m ss).length = m := by
    unfold env0
    rw [List.length_append, List.length_replicate]
    omega
  unfold fillD
  rw [hl]
  congr 1
  unfold env0
  rw [List.take_left' hn]
theorem spD_fill {n m : Nat} {T : En → SR} {dd : List D} {dvs vs : List V} {Q : VK} (hr : ∀ G, RepA K G dvs dd) (hm : n + dd.length ≤ m) (h : spD K n m (fun ρ => T (fillD n dd ρ)) vs H Q E) : spD K (n + dd.length) m T (vs ++ dvs) H Q E := by
  obtain ⟨G, s, h⟩ := h
  refine ⟨G, s, ?_⟩
  rcases h with ⟨ds, r, hn, o⟩ | ⟨a, u, ws, ds, rfl, r, hn, hg, ho, o⟩
  · refine .inl ⟨ds ++ dd, r.app (hr G), by rw [List.length_append, hn, (hr G).len], ?_⟩
    have e : fillD n dd (env0 m (ds.map Slot.val)) = env0 m (ds.map Slot.val ++ dd.map Slot.val) := fill_env (by rw [List.length_map, ← r.len, hn]) hm
    dsimp only at o
    rw [e] at o
    rw [List.map_append]
    exact o
  · refine .inr ⟨a, u, ws ++ dvs, ds ++ dd, rfl, r.app (hr G), by rw [List.length_append, (hr G).len]; omega, hg, ho, ?_⟩
    have e : fillD n dd (env0 m (Slot.bor u :: ds.map Slot.val)) = env0 m (Slot.bor u :: ds.map Slot.val ++ dd.map Slot.val) := fill_env (by rw [List.length_cons, List.length_map, ← r.len, hn]) hm
    dsimp only at o
    rw [e] at o
    rw [List.map_append]
    exact o
/-- a def with defaults, those from the j-th on left out -/
theorem mkDD {x qual : Str} {st : Stmt} {f : Addr} {N ps : List Str} {k : Nat} {T : En → SR} {dvs : List V} {dd : List D} (n j : Nat) (F : ∃ fd, FunD K x qual (defArgs st) (defBody st) (defScope st) dvs [] f fd) (hd : dvs ≠ []) (hn : n + (dvs.length - j) = ps.length) (S : FnScope N ps (defScope st)) (hN : ps.length ≤ N.length)
    (hr : ∀ G, RepA K G (dvs.drop j) dd)
    (hb : ∀ (T : Addr) (kV doc pm : Value) (an : Option Addr) (cdv ct : Value) (us its : List Value), us.length = n → its.length = dvs.length →
      ∃ k, bindArgs (PySem.W.fnOf x qual (defArgs st) (defBody st) (defScope st) (.ref T) kV doc pm an cdv ct) ⟨us, []⟩ = seqItems? (.ref T) >>= k ∧ k (some its.toArray) = pure (ps.zip (us ++ its.drop j)))
    (hbody : ∀ (cdv : Value) (A : Around) (outer : List Env) (s : Shared) (H : Hp) (E : XK), Room k (A.deeper (envOfC qual (defScope st) s.heap.objs.size f cdv)) →
      ∃ t, PSs (cxOf CX0 P w K mg base N qual (defScope st) f cdv A outer s H E) (defBody st) t ∧ LS K E0 t T) : FnR P w K mg base CX0 (k + 1) f (spD0 K n N.length (fun ρ => T (fillD n dd ρ))) := by
  obtain ⟨fd, F⟩ := F
  have hdd : dd.length = dvs.length - j := by rw [← (hr fun _ => none).len, List.length_drop]
  have G : FnOk P w K mg base CX0 (k + 1) f fd ps (spD0 K ps.length N.length T) := F.ok S (fun vs H Q E h => spD_len h) fun cdv A outer s H vs Q E hr hs => by
    obtain ⟨t, h1, h2⟩ := hbody cdv A outer s H E hr
    exact ⟨t, h1, spD_run hN h2 hs⟩
  obtain ⟨ds, hv, b⟩ := F.binds1 n j hd hn hb
  refine (G.raw b hv).imp fun vs H Q E h => ?_
  have := spD_fill (E := E0) (T := T) hr (by omega) h
  rw [hdd, hn] at this
  exact this
def dCMeth (C : Addr) (n m : Nat) (T : En → SR) (B : En → Res (List X)) : En → Res X := fun ρ => (B ρ).bind fun xs ρ1 => match toVals ρ1 xs with
  | some (ds, ρ2) => if ds.length + 1 = n then callV (fin (T (env0 m ((D.cls C :: ds).map .val)))) ρ2 else .stuck
  | none => .stuck
def dMakeL (C : Addr) (i n m : Nat) (T : En → SR) (A : En → Res (List X)) : En → Res X := fun ρ => match ρ[i]? with
  | some (.val (.cls C')) => if C' = C then dMake C n m T A ρ else .stuck
  | _ => .stuck
theorem pe_fldK {X : Cx} {K : Fg} {e : Expr} {f : Str} {pos : Pos} {ta : TE} (he : PE X e ta) (hb : attributeBase e f X.env (eval e X.env) = eval e X.env) (h : X.K = K := by rfl) : PE X (.Attribute e f pos) (tFld K ta f) := h ▸ pe_fld he hb
theorem pg_tupK {X : Cx} {K : Fg} {es : List Expr} {k : Nat} {t : TGs} {n : Nat} {pos : Pos} (hc : X.calm = true) (h : PGs X es t)
    (hn : (assignEach es X.env).length = n := by rfl) (hst : (assignEach es X.env).findIdx? (·.1) = none := by rfl) (hK : X.K = K := by rfl) : PG X (.Tuple es k pos) (gTup K n t) := hK ▸ pg_tup hc h hn hst
theorem room5 {k : Nat} {A : Around} (hr : Room k A) : A.units + 65 < cLine := by
  have := hr.un
  omega
structure Cl where
  Day : Addr
  Rule : Addr
  Frame : Addr
  DimError : Addr
  InvalidDay : Addr
  InvalidRule : Addr
  InvalidFrame : Addr
  InvalidText : Addr
  InvalidLooks : Addr
  InvalidSlot : Addr
  InvalidCommand : Addr
  Refused : Addr
  NoMeeting : Addr
  Maker : Addr
  Machine : Addr
  Viewer : Addr
  Live : Addr
  Desk : Addr
def blts : List String := ["int", "bool", "str", "tuple", "list"]
theorem kit_blt {C : Addr} {b : String} (hb : b ∈ blts) (h : PySem.W.subIn K (.ref C) (.type b) = some false) : PySem.W.kitOne K (.ref C) (.type b) = some false := by
  have m : PySem.W.kitMeta b = true := by
    simp only [blts, List.mem_cons, List.not_mem_nil, or_false] at hb
    rcases hb with rfl | rfl | rfl | rfl | rfl <;> decide +kernel
  have e : ((Value.ref C) == (Value.type b)) = false := rfl
  unfold PySem.W.kitOne
  rw [e]
  show (if PySem.W.kitMeta b = true then PySem.W.subIn K (.ref C) (.type b) else none) = _
  rw [if_pos m, h]
def kitD (Cs : List Addr) : Kit
  | .type a, .type b => kitB a b
  | .ref a, .type b => if a ∈ Cs ∧ b ∈ blts then some false else none
  | .ref a, .ref b => if a = b then some true else none
  | .type a, .ref b => if a = "str" ∧ b ∈ Cs then some false else none
  | _, _ => none
theorem kitD_ok {Cs : List Addr} (h : ∀ C ∈ Cs, PySem.W.kitOne K (.type "str") (.ref C) = some false) (h2 : ∀ C ∈ Cs, ∀ b ∈ blts, PySem.W.subIn K (.ref C) (.type b) = some false) : KitOk K (kitD Cs) := by
  intro t u b e
  unfold kitD at e
  split at e
  · exact kit_ty e
  · split at e
    · rename_i hc
      cases e
      exact kit_blt hc.2 (h2 _ hc.1 _ hc.2)
    · cases e
  · split at e
    · rename_i h
      cases e
      rw [h]
      simp [PySem.W.kitOne]
    · cases e
  · split at e
    · rename_i hc
      cases e
      rw [hc.1]
      exact h _ hc.2
    · cases e
  · cases e
def sDead : En → SR := fun _ => .stuck
theorem L_dead : LS K E (fun _ _ _ => False) sDead := fun F G H σ ρ D R w => w.elim
def dSeqI (A : En → Res X) : En → Res (List D) := fun ρ => (A ρ).bind fun a ρ1 => match a with
  | .val d => lift d.items ρ1
  | .new o => lift o.d.items ρ1
  | .own i => match ρ1[i]? with
    | some (.val d) => lift d.items ρ1
    | _ => .stuck
theorem I_seq {ta : TE} {A : En → Res X} (ha : LE K E ta A) : LI K E (iSeq K ta) (dSeqI A) := by
  intro F G H σ ρ Q R w
  refine ha F G H σ ρ _ R (Wants.bind w fun v a G1 H1 ρ1 R1 s1 hx w1 => ?_)
  have fz : ∀ {G2 : Hp} {d : D}, Rl K F G2 H1 σ ρ1 → Same G1 G2 → Rep K G2 v d → Wants K E (fun _ G _ _ _ J ds => Its K (fun _ => True) G J ds) F G2 σ Q (lift d.items ρ1) → ∃ a, v = .ref a ∧ (((∃ xs, SqL K H1 a xs) ∧ Q (Itl K a) H1) ∨ ((∃ xs, SqT K H1 a xs) ∧ Q (Itt K a) H1)) := by
    intro G2 d R2 s2 hr w2
    obtain ⟨ds, e, q⟩ := w2.lift
    obtain ⟨a, rfl, h⟩ := its_rep R2 hr e
    rcases h with ⟨h1, h2⟩ | ⟨h1, h2⟩
    · exact ⟨a, rfl, .inl ⟨h1, q _ G2 H1 R2 (Same.refl G2) h2⟩⟩
    · exact ⟨a, rfl, .inr ⟨h1, q _ G2 H1 R2 (Same.refl G2) h2⟩⟩
  cases a with
  | val d => exact fz R1 (Same.refl G1) hx w1
  | new o =>
    obtain ⟨G2, R2, s2, r2⟩ := R1.settle hx
    exact fz R2 s2 r2 (w1.mono s2)
  | own i =>
    dsimp only at w1
    cases e : ρ1[i]? with
    | none => rw [e] at w1; exact w1.elim
    | some t =>
      rw [e] at w1
      cases t <;> try exact w1.elim
      rename_i d
      obtain ⟨v', h1, h2⟩ := R1.val e
      rw [show σ[i]? = some (some v) from hx] at h1
      cases h1
      exact fz R1 (Same.refl G1) h2 w1
section
variable {E' : XK} {C : Addr} {g : Str} {n m i : Nat} {T : En → SR} {ta tb : TE} {t : TA} {A B : En → Res X} {As : En → Res (List X)} {x qual : Str} {st : Stmt} {f : Addr} {N ps : List Str} {k : Nat}
theorem Lz_call (ha : LA K E0 t As) : LE K E0 (tCallR (spD0 K n m T) E' t) (dCall n m T As) := L_call ha
theorem Lz_lend (ha : LA K E0 t As) : LE K E0 (tCallR (spD0 K n m T) E' (tCons (tVar i) t)) (dLend n m T i As) := L_lend ha
theorem Lz_meth (ha : LE K E0 ta A) (hb : LA K E0 t As) : LE K E0 (DD.tMethR C g (spD0 K n m T) E' ta t) (dMeth C g n m T A As) := L_meth ha hb
theorem Lz_prop (ha : LE K E0 ta A) : LE K E0 (tPropR C (spD0 K 1 m T) E' ta) (dProp C m T A) := L_prop ha
theorem Lz_make (ha : LA K E0 t As) : LE K E0 (StX.tMakeR C (spD0 K n m T) E' t) (dMake C n m T As) := L_make ha
/-- a def without defaults -/
theorem mkDz (F : ∃ fd, Fun K x qual st f fd) (S : FnScope N ps (defScope st)) (hN : ps.length ≤ N.length)
    (hb : ∀ (kV doc pm : Value) (an : Option Addr) (cdv ct : Value) (us : List Value), us.length = ps.length → bindArgs (PySem.W.fnOf x qual (defArgs st) (defBody st) (defScope st) .none kV doc pm an cdv ct) ⟨us, []⟩ = pure (ps.zip us))
    (hbody : ∀ (cdv : Value) (A : Around) (outer : List Env) (s : Shared) (H : Hp) (E : XK), Room k (A.deeper (envOfC qual (defScope st) s.heap.objs.size f cdv)) →
      ∃ t, PSs (cxOf CX0 P w K mg base N qual (defScope st) f cdv A outer s H E).nox (defBody st) t ∧ LS K E0 t T) : FnR P w K mg base CX0 (k + 1) f (spD0 K ps.length N.length T) := by
  obtain ⟨fd, F⟩ := F
  have G : FnOk P w K mg base CX0 (k + 1) f fd ps (spD0 K ps.length N.length T) := F.ok S (fun vs H Q E h => spD_len h) fun cdv A outer s H vs Q E hr hs => by
    obtain ⟨t, h1, h2⟩ := hbody cdv A outer s H E hr
    exact ⟨t, h1, spD_run hN h2 hs⟩
  refine (G.raw (F.binds hb) .nil).imp fun vs H Q E h => ?_
  rw [List.append_nil]
  exact h
end
def spLaw (K : Fg) : Sp := fun vs H Q _ => ∃ (a : Addr) (ns : List Int), vs = [.ref a] ∧ SqL K H a (ns.map V.int) ∧ ns.length ≤ 63 ∧ ∀ H', Q (.bl true) H'
/-- what is left: the law's run upon data -/
def LawOk (m : Nat) (T : En → SR) : Prop := ∀ ns : List Int, ns.length ≤ 63 → ∃ ρ, fin (T (env0 m [.val (.scr (ns.map D.int))])) = .ok (.val (.bl true)) ρ
theorem law_run {E : XK} {N : List Str} {T : En → SR} {t : TS} {vs : List V} {Q : VK} (hN : 1 ≤ N.length) (h : LS K E0 t T) (hl : LawOk N.length T) (hs : spLaw K vs H Q E) : t { nx := fun _ H' => Q .non H', rt := Q } (start N vs) H := by
  obtain ⟨a, ns, rfl, hS, hn, q⟩ := hs
  obtain ⟨ρ, e⟩ := hl ns hn
  refine spD_run (n := 1) hN h ⟨H, Same.refl H, .inl ⟨[.scr (ns.map D.int)], .one (.scr hS .ofInts), rfl, ?_⟩⟩
  show Out K E0 H H none Q (fin (T (env0 N.length [.val (.scr (ns.map D.int))])))
  rw [e]
  intro v G' H' _ hx
  cases hx
  exact q H'
end
end DL
set_option Elab.async false
set_option linter.all false
set_option maxRecDepth 100000
set_option maxHeartbeats 2000000
namespace DD
open PySem PySem.Spec PyProof.Rows L2
def scriptO (vs : List Value) : Obj := { cls := .type "list", data := .seq vs.toArray }
/-- either nothing is tracked, or the script alone -/
def Script (K : PySem.W.Frag) (H : Hp) (a : Addr) (o : Obj) (xs : List V) : Prop := ∀ b, H b = none ∨ (b = a ∧ H b = some (.frz o (.lst xs)) ∧ K.lookup a = none)
section
variable {P : Program} {w : World} {K : PySem.W.Frag} {mg mb : Str → Option Value} {k : Nat} {fa a : Addr} {fd : FuncData} {x : Str} {sp : Sp} {s : Shared} {vs : List Value} {ns : List Int} {H : Hp}
theorem script_core (inK : K.In s.heap) (nsG : s.heap.Ns mainGlobals mg) (nsB : s.heap.Ns builtinsNs mb) (boot : ∀ x : Str, x ≠ "__name__" → mb x = bootBuiltins x) (lim : s.heap.NoLimit) (gens : s.gens = #[]) (at_ : s.heap.get? a = some (scriptO vs))
    (room : Room k callerA) (F : ∀ base : Heap, K.In base → base.Ns mainGlobals mg → FnG P w K mg base k fa fd [x] sp) (binds : ∀ (s : Shared) (u : Value), BindsTo s fd ⟨[u], []⟩ [(x, u)])
    (alone : Script K H a (scriptO vs) (ns.map V.int)) (hok : HOk P w H s.heap) (h : sp [.ref a] H (fun v _ => v = .bl true) fun _ _ _ => False) :
    codeAny (model P w) callerA (.call (.ref fa) ⟨[.ref a], []⟩) (fun r s' => r = .ok (.ret (.bool true)) ∧ OldK s.heap s'.heap ∧ s'.os = s.os ∧ AllBare s'.gens) s := by
  have keepNs : ∀ {b : Addr} {m : Str → Option Value}, s.heap.Ns b m → (hidT s.heap H).Ns b m := by
    rintro b m ⟨o, es, ep, e, dat, r⟩
    refine ⟨o, es, ep, hidT_get e ?_, dat, r⟩
    rcases alone b with z | ⟨rfl, -, -⟩
    · exact z
    · rw [at_] at e
      cases e
      cases (show Data.seq vs.toArray _ = Data.dict es ep from dat)
  have keepK : K.In (hidT s.heap H) := fun b o e => hidT_get (inK b o e) <| by
    rcases alone b with z | ⟨rfl, -, z⟩
    · exact z
    · rw [e] at z
      cases z
  have mod : Mod K mg (hidT s.heap H) := by
    obtain ⟨mc, l1, l2⟩ := lim
    exact ⟨keepK, keepNs nsG, ⟨mb, keepNs nsB, boot⟩, ⟨mc, keepNs l1, l2⟩⟩
  have env : Env0 P w K mg (hidT s.heap H) callerA [] s H :=
    { frames := rfl, mod := mod, bs := fun b o e => of_hidT e, bsz := Nat.le_of_eq (hidT_size _ _), funs := trivial, frf := fun b z => absurd (show b ∈ ([] : List Addr) from z) (by simp), hok := hok, bare := .of_eq gens }
  refine codeAny_mono (F _ keepK (keepNs nsG) callerA [] s H _ [.ref a] [.ref a] _ _ room rfl env (binds s (.ref a)) (.cons rfl .nil) h) fun r s' z => ?_
  match r, z with
  | .ok (.ret u), ⟨v, H', os, bare, un, hok', rv, ev⟩ =>
    have ev' : v = .bl true := ev
    subst ev'
    obtain rfl : u = Value.bool true := rv
    refine ⟨rfl, OldK.of_keep fun b o e => ?_, os, bare⟩
    rcases alone b with z | ⟨rfl, z, -⟩
    · exact un.keep b o e z (by intro y; exact absurd (show b ∈ ([] : List Addr) from y) (by simp)) (by simp)
    · have t := (hok' b _ (un.frzs b _ _ z)).1
      rw [at_] at e
      cases e
      exact t
theorem script_run (inK : K.In s.heap) (nsG : s.heap.Ns mainGlobals mg) (nsB : s.heap.Ns builtinsNs mb) (boot : ∀ x : Str, x ≠ "__name__" → mb x = bootBuiltins x) (lim : s.heap.NoLimit) (gens : s.gens = #[]) (at_ : s.heap.get? a = some (scriptO vs))
    (nums : IntsAre vs ns) (size : ns.length ≤ sizeLine) (room : Room k callerA) (F : ∀ base : Heap, K.In base → base.Ns mainGlobals mg → FnG P w K mg base k fa fd [x] sp) (binds : ∀ (s : Shared) (u : Value), BindsTo s fd ⟨[u], []⟩ [(x, u)])
    (h : ∀ H : Hp, Only H → SqL K H a (ns.map V.int) → sp [.ref a] H (fun v _ => v = .bl true) fun _ _ _ => False) :
    codeAny (model P w) callerA (.call (.ref fa) ⟨[.ref a], []⟩) (fun r s' => r = .ok (.ret (.bool true)) ∧ OldK s.heap s'.heap ∧ s'.os = s.os ∧ AllBare s'.gens) s := by
  have rv := vals_ints nums
  have len := nums.length
  cases e : K.lookup a with
  | some o =>
    have o' := inK a o e
    rw [at_] at o'
    cases o'
    have hs : SqL K (fun _ => none) a (ns.map V.int) := .inr ⟨_, vs.toArray, _, e, rfl, rfl, rfl, by rw [List.size_toArray, len]; exact size, by simpa using rv⟩
    exact script_core (ns := ns) (H := fun _ => none) inK nsG nsB boot lim gens at_ room F binds (fun b => .inl rfl) (fun b u z => nomatch z) (h _ (fun _ => .inl rfl) hs)
  | none =>
    have hs : SqL K (upd (fun _ => none) a (.frz (scriptO vs) (.lst (ns.map V.int)))) a (ns.map V.int) := .inl (.inr ⟨scriptO vs, upd_same⟩)
    have al : Script K (upd (fun _ => none) a (.frz (scriptO vs) (.lst (ns.map V.int)))) a (scriptO vs) (ns.map V.int) := fun b => by
      by_cases hb : b = a
      · exact .inr ⟨hb, by rw [hb]; exact upd_same, e⟩
      · exact .inl (by rw [upd_ne hb])
    refine script_core (H := upd (fun _ => none) a (.frz (scriptO vs) (.lst (ns.map V.int)))) inK nsG nsB boot lim gens at_ room F binds al (fun b u z => ?_) (h _ (fun b => (al b).imp id fun y => ⟨_, _, y.2.1⟩) hs)
    by_cases hb : b = a
    · subst hb
      rw [upd_same] at z
      cases z
      exact ⟨at_, by rw [List.length_map]; exact size, vs, _, rv, at_⟩
    · rw [upd_ne hb] at z
      cases z
end
theorem walk_ofG {l : PySem.W.OpenLaw} {n k : Nat} {q : Program} {loose : List Str} {XP : (Str → Option Value) → Heap → Prop} {YP : World → Heap → Prop} {d : DefRec} {K : Params → PySem.W.Frag} {sp : PySem.W.Frag → Sp} {x : Str}
    (hn : l.most = some n) (hn2 : n ≤ sizeLine) (hdf : d.params.defaults = []) (hr : Room k callerA)
    (hY : ∀ (w : World) (h : Heap), YP w h → (K w.params).In h)
    (F : ∀ (w : World) (mg : Str → Option Value) (fa : Addr) (h : Heap), (K w.params).In h → h.Ns mainGlobals mg → mg d.name = some (.ref fa) →
      ∃ fd : FuncData, (∀ (s : Shared) (u : Value), BindsTo s fd ⟨[u], []⟩ [(x, u)]) ∧ ∀ base : Heap, (K w.params).In base → base.Ns mainGlobals mg → FnG l.prog w (K w.params) mg base k fa fd [x] (sp (K w.params)))
    (hsp : ∀ (K : PySem.W.Frag) (H : Hp) (a : Addr) (ns : List Int), ns.length ≤ n → Only H → SqL K H a (ns.map V.int) → sp K [.ref a] H (fun v _ => v = .bl true) fun _ _ _ => False) :
    PySem.W.WalkO q loose XP YP l.row.toRowW d [] (fun f vs => PySem.call f vs) := by
  refine Att.attach_call hn hdf fun w s₀ s₁ mg mb fa o pm cd doc a vs ns G Y ho hd hcd hmg hobj hints hlen hg => ?_
  obtain ⟨fd, binds, hF⟩ := F w mg fa _ (hY w _ Y) G.T.g hmg
  exact script_run (hY w _ Y) G.T.g G.T.b G.T.builtins G.T.nolimit hg hobj hints (Nat.le_trans hlen hn2) hr hF binds fun H hO hS => hsp (K w.params) H a ns hlen hO hS
/-- the rule for a def, by its body, where the guards are known -/
theorem fun_okG {P : Program} {w : World} {K : PySem.W.Frag} {mg : Str → Option Value} {base : Heap} {x qual : Str} {st : Stmt} {f : Addr} {fd : FuncData} {N ps : List Str} {k : Nat} {sp : Sp} (F : Fun K x qual st f fd) (S : FnScope N ps (defScope st)) (len : ∀ vs H Q E, sp vs H Q E → vs.length = ps.length)
    (hbody : ∀ (cdv : Value) (A : Around) (outer : List Env) (s : Shared) (H : Hp) (vs : List V) (Q : VK) (E : XK), Room k (A.deeper (envOfC qual (defScope st) s.heap.objs.size f cdv)) → (A.deeper (envOfC qual (defScope st) s.heap.objs.size f cdv)).guards = some [] → sp vs H Q E →
      ∃ t, PSs (cxOf CX0 P w K mg base N qual (defScope st) f cdv A outer s H E).nox (defBody st) t ∧ t { nx := fun _ H' => Q .non H', rt := Q } (start N vs) H) : FnG P w K mg base (k + 1) f fd ps sp := by
  obtain ⟨oc, od, kV, doc, pm, an, cdv, ct, osl, rfl, lk, hcd⟩ := F.ex
  exact fnG_of lk hcd S len fun A outer s H vs Q E hr hg h => hbody cdv A outer s H vs Q E hr hg h
end DD
set_option Elab.async false
set_option linter.all false
set_option maxRecDepth 100000
set_option maxHeartbeats 2000000
namespace DL
open PySem PySem.Spec PyProof.Rows L2 DD
section
variable {K : Fg} {E : XK} {F : Fm} {G G' H H' : Hp} {σ σ' : L2.St} {ρ ρ' : En} {ta tb : TE} {A B : En → Res X} {t : TA} {T : En → Res (List X)}
open Classical in
noncomputable def rng3D : List D → Option (List D)
  | [.int i, .int j, .int c] => if RgC i j c (Builtin.Range.rangeSize i j c).toNat then some ((List.range (Builtin.Range.rangeSize i j c).toNat).map fun n => D.int (i + (n : Nat) * c)) else none
  | _ => none
noncomputable def dRng3 (T : En → Res (List X)) : En → Res (List D) := fun ρ => (T ρ).bind fun xs ρ1 => lift ((derefs ρ1 xs).bind rng3D) ρ1
end
section
variable {K : Fg} {E : XK} {F : Fm} {G G' H H' : Hp} {σ σ' : L2.St} {ρ ρ' : En} {ta tb : TE} {A B : En → Res X} {t : TA} {T : En → Res (List X)}
theorem RepXs.app : ∀ {vs ws : List V} {xs ys : List X}, RepXs K F G H σ ρ vs xs → RepXs K F G H σ ρ ws ys → RepXs K F G H σ ρ (vs ++ ws) (xs ++ ys)
  | _, _, _, _, .nil, h => h
  | _, _, _, _, .cons h n r, h' => .cons h n (RepXs.app r h')
end
end DL
set_option Elab.async false
set_option linter.all false
set_option maxRecDepth 100000
set_option maxHeartbeats 2000000
namespace DD
open PySem PySem.Spec PyProof.Rows L2
end DD
set_option Elab.async false
set_option linter.all false
set_option maxRecDepth 100000
set_option maxHeartbeats 2000000
namespace DD
open PySem PySem.Spec PyProof.Rows L2
end DD
set_option Elab.async false
set_option linter.all false
set_option maxRecDepth 100000
set_option maxHeartbeats 2000000
namespace DD
open PySem PySem.Spec PyProof.Rows L2
/-- a promise by n positional values and the values of the keywords ks -/
structure FnK (P : Program) (w : World) (K : PySem.W.Frag) (mg : Str → Option Value) (base : Heap) (CX : CXT) (k : Nat) (f : Addr) (n : Nat) (ks : List Str) (sp : Sp) : Prop where
  len : ∀ vs H Q E, sp vs H Q E → vs.length = n + ks.length
  run : ∀ (A : Around) (outer : List Env) (s : Shared) (H : Hp) (us ws : List Value) (vs zs : List V) (Q : VK) (E : XK), Room k A → Env0 P w K mg base A outer s H → Vals vs us → Vals zs ws → vs.length = n → zs.length = ks.length → sp (vs ++ zs) H Q E →
    codeAny (model P w) A (.call (.ref f) ⟨us, ks.zip ws⟩) (CR CX outer P w H s Q E) s
section
variable {P : Program} {w : World} {K : PySem.W.Frag} {mg : Str → Option Value} {base : Heap} {CX : CXT} {j k n : Nat} {f : Addr} {sp sp' : Sp} {ks : List Str}
theorem FnK.mono (F : FnK P w K mg base CX j f n ks sp) (h : j ≤ k) : FnK P w K mg base CX k f n ks sp := ⟨F.len, fun A outer s H us ws vs zs Q E hr => F.run A outer s H us ws vs zs Q E (hr.mono h)⟩
end
end DD
set_option Elab.async false
set_option linter.all false
set_option maxRecDepth 100000
set_option maxHeartbeats 2000000
namespace DD
open PySem PySem.Spec PyProof.Rows L2
end DD
set_option Elab.async false
set_option linter.all false
set_option maxRecDepth 100000
set_option maxHeartbeats 2000000
namespace DL
open PySem PySem.Spec PyProof.Rows L2 DD
def pick {α : Type} (d : α) (l : List α) (π : List Nat) : List α := π.map fun i => l.getD i d
@[simp] theorem pick_nil {α : Type} (d : α) (l : List α) : pick d l [] = [] := rfl
@[simp] theorem pick_cons {α : Type} (d : α) (l : List α) (i : Nat) (π : List Nat) : pick d l (i :: π) = l.getD i d :: pick d l π := rfl
/-- the arguments in the parameters' order, the defaults dd among them -/
@[simp] def permD (n : Nat) (dd : List D) (π : List Nat) (ρ : En) : En := env0 ρ.length (pick Slot.none (ρ.take n ++ dd.map Slot.val) π)
end DL
set_option Elab.async false
set_option linter.all false
set_option maxRecDepth 100000
set_option maxHeartbeats 2000000
namespace DL
open PySem PySem.Spec PyProof.Rows L2 DD
@[simp] def slD : En → List D
  | [] => []
  | .val d :: r => d :: slD r
  | _ :: _ => []
/-- p.but(k = v, ..): Rule(..) of the five, those with a place beyond 4 told by name -/
@[simp] def dBut (C : Addr) (m : Nat) (Ti : En → SR) (π : List Nat) : En → SR := fun ρ => match ρ with
  | .val (.ins C' ks es) :: zs => if C' = C then match getF "step" ks es, getF "gap" ks es, getF "least" ks es, getF "private" ks es, getF "hours" ks es with
    | some d1, some d2, some d3, some d4, some d5 => match makeV (fin (Ti (env0 m (.bor (.ins C [] []) :: (pick .non ([d1, d2, d3, d4, d5] ++ slD zs) π).map .val)))) ρ with
      | .ok x ρ' => .rt x ρ'
      | .err x ρ' => .err x ρ'
      | .stuck => .stuck
    | _, _, _, _, _ => .stuck
  else .stuck
  | _ => .stuck
end DL
set_option Elab.async false
set_option linter.all false
set_option maxRecDepth 100000
set_option maxHeartbeats 2000000
namespace DL
open PySem PySem.Spec PyProof.Rows L2 DD
def pickS (xs : List D) (lo hi : Option Int) (st : Int) : List D :=
  (sliceRange (sliceBounds lo hi (some st) xs.length).1 (sliceBounds lo hi (some st) xs.length).2.1 (sliceBounds lo hi (some st) xs.length).2.2).filterMap (xs[·]?)
def opSl3 (st : Int) : D → Option Int → Option Int → Option X
  | .lst ds, lo, hi => if (pickS ds lo hi st).length ≤ sizeLine then some (.new (.lst (pickS ds lo hi st))) else none
  | _, _, _ => none
def dSl3 (st : Int) (A : En → Res X) (L U : En → Res (Option Int)) : En → Res X := fun ρ => (A ρ).bind fun a ρ1 => (L ρ1).bind fun lo ρ2 => (U ρ2).bind fun hi ρ3 => match deref ρ3 a.settle with
  | some d => lift (opSl3 st d lo hi) ρ3
  | none => .stuck
@[simp] def uLst (n : Nat) (Us : Tgs) : Tg := fun d ρ => match d with
  | .lst ds => if ds.length = n then Us ds ρ else none
  | _ => none
def dEqOS (C : Addr) (m : Nat) (T : En → SR) (A B : En → Res X) : En → Res X := fun ρ => (A ρ).bind fun a ρ1 => (B ρ1).bind fun b ρ2 => match toVal ρ2 a.settle with
  | some (.ins C' ks es, ρ3) => match toVal ρ3 b.settle with
    | some (.str z, ρ4) => if C' = C then callP xBl (fin (T (env0 m [.val (D.ins C' ks es), .val (D.str z)]))) ρ4 else .stuck
    | _ => .stuck
  | _ => .stuck
end DL
set_option Elab.async false
set_option linter.all false
set_option maxRecDepth 100000
set_option maxHeartbeats 2000000
namespace DL
open PySem PySem.Spec PyProof.Rows L2 DD
def dIxO (C : Addr) (m : Nat) (T : En → SR) (A B : En → Res X) : En → Res X := fun ρ => (A ρ).bind fun a ρ1 => (B ρ1).bind fun b ρ2 => match toVal ρ2 a.settle with
  | some (.ins C' ks es, ρ3) => match toVal ρ3 b.settle with
    | some (z, ρ4) => if C' = C then callV (fin (T (env0 m [.val (D.ins C' ks es), .val z]))) ρ4 else .stuck
    | none => .stuck
  | _ => .stuck
end DL
set_option Elab.async false
set_option linter.all false
set_option maxRecDepth 100000
set_option maxHeartbeats 2000000
namespace DD
open PySem PySem.Spec PyProof.Rows L2 HT
end DD
set_option Elab.async false
set_option linter.all false
set_option maxRecDepth 100000
set_option maxHeartbeats 2000000
namespace DL
open PySem PySem.Spec PyProof.Rows L2 DD
end DL
set_option Elab.async false
set_option linter.all false
set_option maxRecDepth 100000
set_option maxHeartbeats 2000000
namespace DD
open PySem PySem.Spec PyProof.Rows L2
end DD
set_option Elab.async false
set_option linter.all false
set_option maxRecDepth 100000
set_option maxHeartbeats 2000000
namespace DL
open PySem PySem.Spec PyProof.Rows L2 DD
def WSW (K : Fg) (W : WX) (F : Fm) (D : Ends) : SR → Prop
  | .nx ρ => ∀ σ G H, Rl K F G H σ ρ → D.nx σ H
  | .rt x ρ => ∀ v σ G H, Rl K F G H σ ρ → RepX K F G H σ ρ v x → D.rt v H
  | .bk ρ => ∀ σ G H, Rl K F G H σ ρ → D.bk σ H
  | .ct ρ => ∀ σ G H, Rl K F G H σ ρ → D.ct σ H
  | .err x ρ => ∀ c od σ G H, Rl K F G H σ ρ → XRep K G H c od x → W c od σ H
  | .stuck => False
def LSW (K : Fg) (W : WX) (t : TS) (T : En → SR) : Prop := ∀ (F : Fm) (G H : Hp) (σ : L2.St) (ρ : En) (D : Ends), Rl K F G H σ ρ → WSW K W F D (T ρ) → t D σ H
/-- an expression's -/
def LEW (K : Fg) (W : WX) (t : TE) (T : En → Res X) : Prop := ∀ (F : Fm) (G H : Hp) (σ : L2.St) (ρ : En) (Q : VK), Rl K F G H σ ρ → Wants K (WE W σ) (RepX K) F G σ Q (T ρ) → t σ H Q
section
variable {α β : Type} {K : Fg} {W : WX} {F : Fm} {G G' H H' : Hp} {σ : L2.St} {ρ ρ' : En} {t u s : TS} {T S U : En → SR} {ta : TE} {A : En → Res X} {tt : TT} {B : En → Res Bool}
theorem WSW.sb {rel : Rel β α} {D : Ends} {Q1 : β → Hp → Prop} {r : Res α} {U : α → En → SR} (h : WSW K W F D (r.sb U))
    (k : ∀ b a G' H' ρ', Rl K F G' H' σ ρ' → Same G G' → rel F G' H' σ ρ' b a → WSW K W F D (U a ρ') → Q1 b H') : Wants K (WE W σ) rel F G σ Q1 r := by
  cases r with
  | ok a ρ' => exact fun b G2 H2 R s q => k b a G2 H2 ρ' R s q h
  | err x ρ' => exact fun c od G2 H2 R _ x => h c od σ G2 H2 R x
  | stuck => exact h
theorem LSW.nx : LSW K W tNext sNext := fun F G H σ ρ D R w => w σ G H R
theorem LSW.seq (h1 : LSW K W s S) (h2 : LSW K W u U) : LSW K W (tSeq s u) (sSeq S U) := by
  intro F G H σ ρ D R w
  refine h1 F G H σ ρ _ R ?_
  unfold sSeq at w
  cases e : S ρ with
  | nx ρ1 =>
    rw [e] at w
    exact fun σ' G' H' R' => h2 F G' H' σ' ρ1 D R' w
  | rt x ρ1 => rw [e] at w; exact w
  | bk ρ1 => rw [e] at w; exact w
  | ct ρ1 => rw [e] at w; exact w
  | err x ρ1 => rw [e] at w; exact w
  | stuck => rw [e] at w; exact w
theorem LSW.drop (ha : LEW K W ta A) : LSW K W (tDrop ta) (sDrop A) := by
  intro F G H σ ρ D R w
  exact ha F G H σ ρ _ R (w.sb fun b a G' H' ρ' R' _ _ w' => w' σ G' H' R')
theorem LSW.ret (ha : LEW K W ta A) : LSW K W (tRet ta) (sRet A) := by
  intro F G H σ ρ D R w
  exact ha F G H σ ρ _ R (w.sb fun b a G' H' ρ' R' _ hx w' => w' b σ G' H' R' hx)
theorem WSW.ws {D : Ends} {r : SR} (h : ∀ x ρ, r ≠ .err x ρ) (w : WSW K W F D r) : WS K E0 F D r := by
  cases r <;> first | exact w | exact (h _ _ rfl).elim
theorem LSW.set {i : Nat} (ha : LEW K W ta A) : LSW K W (tAsg ta (gName i)) (sSet i A) := by
  intro F G H σ ρ D R w
  refine ha F G H σ ρ _ R (w.sb fun b a G' H' ρ' R' _ hx w' => put_run R' hx (WSW.ws (fun x ρ1 => ?_) w'))
  unfold putX
  cases a with
  | val d => dsimp only; split <;> (intro z; cases z)
  | new o => dsimp only; split <;> (intro z; cases z)
  | own j =>
    dsimp only
    split
    · split <;> (intro z; cases z)
    · intro z; cases z
end
/-- the error that is caught: at a, in slot i, its fields in d -/
def HX (K : Fg) (a : Addr) (i : Nat) (x : Xc) (d : Option Addr) (G : Hp) (σ : L2.St) : Prop := σ[i]? = some (some (.ref a)) ∧ ((d = none ∧ x.ks = []) ∨ ∃ e fs, d = some e ∧ G e = some (.xd fs) ∧ fs.map (·.1) = x.ks ∧ RepA K G (fs.map (·.2)) x.ds)
theorem HX.mono {K : Fg} {a : Addr} {i : Nat} {x : Xc} {d : Option Addr} {G G' : Hp} {σ : L2.St} (s : Same G G') (h : HX K a i x d G σ) : HX K a i x d G' σ := by
  obtain ⟨h1, h2⟩ := h
  refine ⟨h1, ?_⟩
  rcases h2 with h2 | ⟨e, fs, e1, e2, e3, e4⟩
  · exact .inl h2
  · exact .inr ⟨e, fs, e1, s _ _ e2, e3, e4.mono s⟩
def LGx {α β : Type} (K : Fg) (a : Addr) (i : Nat) (x : Xc) (d : Option Addr) (rel : Rel β α) (t : L2.St → Hp → (β → Hp → Prop) → Prop) (T : En → Res α) : Prop :=
  ∀ (F : Fm) (G H : Hp) (σ : L2.St) (ρ : En) (Q : β → Hp → Prop), Rl K F G H σ ρ → HX K a i x d G σ → Wants K E0 rel F G σ Q (T ρ) → t σ H Q
section
variable {α β γ δ : Type} {K : Fg} {a : Addr} {i : Nat} {x : Xc} {d : Option Addr} {ta tb : TE} {A B : En → Res X} {t u : TT} {T U : En → Res Bool}
theorem LGx.bind {rel : Rel β α} {rel2 : Rel δ γ} {t : L2.St → Hp → (β → Hp → Prop) → Prop} {T : En → Res α} {k : β → L2.St → Hp → (δ → Hp → Prop) → Prop} {U : α → En → Res γ} (h : LGx K a i x d rel t T)
    (h2 : ∀ F G H σ ρ b z Q, Rl K F G H σ ρ → HX K a i x d G σ → rel F G H σ ρ b z → Wants K E0 rel2 F G σ Q (U z ρ) → k b σ H Q) : LGx K a i x d rel2 (fun σ H Q => t σ H fun b H1 => k b σ H1 Q) (fun ρ => (T ρ).bind U) := by
  intro F G H σ ρ Q R hx w
  exact h F G H σ ρ _ R hx (w.bind fun b z G' H' ρ' R' s q w' => h2 F G' H' σ ρ' b z Q R' (hx.mono s) q w')
end
end DL
set_option Elab.async false
set_option linter.all false
set_option maxRecDepth 100000
set_option maxHeartbeats 2000000
namespace DD
open PySem PySem.Spec PyProof.Rows L2
end DD
set_option Elab.async false
set_option linter.all false
set_option maxRecDepth 100000
set_option maxHeartbeats 2000000
namespace DL
open PySem PySem.Spec PyProof.Rows L2 DD
end DL
set_option Elab.async false
set_option linter.all false
set_option maxRecDepth 100000
set_option maxHeartbeats 2000000
namespace DD
open PySem PySem.Spec PyProof.Rows L2
end DD
set_option Elab.async false
set_option linter.all false
set_option maxRecDepth 100000
set_option maxHeartbeats 2000000
namespace DL
open PySem PySem.Spec PyProof.Rows L2 DD
end DL
set_option Elab.async false
set_option linter.all false
set_option maxRecDepth 100000
set_option maxHeartbeats 2000000
namespace DD
open PySem PySem.Spec PyProof.Rows L2
end DD
set_option Elab.async false
set_option linter.all false
set_option maxRecDepth 100000
set_option maxHeartbeats 2000000
namespace DL
open PySem PySem.Spec PyProof.Rows L2 DD
end DL
set_option Elab.async false
set_option linter.all false
set_option maxRecDepth 100000
set_option maxHeartbeats 2000000
namespace DD
open PySem PySem.Spec PyProof.Rows L2
end DD
set_option Elab.async false
set_option linter.all false
set_option maxRecDepth 100000
set_option maxHeartbeats 2000000
namespace DL
open PySem PySem.Spec PyProof.Rows L2 DD
@[simp] def opNotInT : D2
  | .str i, .str j => some (.val (.bl (!(!(Builtin.Str.occurrences j i 0 j.length 1).isEmpty))))
  | _, _ => none
end DL
set_option Elab.async false
set_option linter.all false
set_option maxRecDepth 100000
set_option maxHeartbeats 2000000
namespace DD
open PySem PySem.Spec PyProof.Rows L2
abbrev Cl1 := Value × (Addr → Value → Option Addr → TS)
section
variable {X : Cx} {n : Str} {i : Nat} {hds : List ExceptHandler} {l : List Cl1} {pins : List (Addr × Obj)} {σ : L2.St} {H : Hp} {D : Ends}
/-- what stands when an error has been looked at -/
structure Caught (X : Cx) (pins : List (Addr × Obj)) (σ : L2.St) (H : Hp) (a : Addr) (cls : Value) (d : Option Addr) (B : Heap) (sI s : Shared) : Prop where
  inv : Inv X pins σ H sI
  nb : ∀ b o, sI.heap.get? b = some o → b ∉ frs X.stack → B.get? b = some o
  up : sI.heap.UpToSlots s.heap
  na : H a = none
  os : s.os = sI.os
  ag : AllBare s.gens
  fl : HandSPX.FlyingZ B (X.env :: X.outer) a (Zc cls d) s.heap
theorem Caught.at {a : Addr} {cls : Value} {d : Option Addr} {B : Heap} {sI s : Shared} (C : Caught X pins σ H a cls d B sI s) (hf : X.env.frame = some X.env.locals) :
    ∃ oe, s.heap.get? a = some oe ∧ Zc cls d oe ∧ (∃ vs, oe.data = .fields vs) ∧ Inv (X.suite a ((a, oe) :: (X.pn ++ pins))) [] σ H s := by
  have J := C.inv.landed C.nb C.fl.1 C.up C.os C.ag
  obtain ⟨oe, vs, e1, e2, e3⟩ := C.fl.there
  have far : a ∉ frs (X.env :: X.outer) := fun q => by
    obtain ⟨_, o2, g, nf⟩ := C.fl.2.2.1.mem q
    rw [e1] at g
    cases g
    exact nf _ e3
  refine ⟨oe, e1, e2, ⟨vs, e3⟩, J.suite e1 e3 C.na (fun z => ?_) fun q => ?_⟩
  · exact far (List.mem_filterMap.mpr ⟨X.env, .head _, by rw [hf, z]⟩)
  · obtain ⟨e, m, q2⟩ := List.mem_filterMap.mp q
    exact far (List.mem_filterMap.mpr ⟨e, .tail _ m, q2⟩)
end
end DD
set_option Elab.async false
set_option linter.all false
set_option maxRecDepth 100000
set_option maxHeartbeats 2000000
namespace DL
open PySem PySem.Spec PyProof.Rows L2 DD
end DL
set_option Elab.async false
set_option linter.all false
set_option maxRecDepth 100000
set_option maxHeartbeats 2000000
namespace DD
open PySem PySem.Spec PyProof.Rows L2
end DD
set_option Elab.async false
set_option linter.all false
set_option maxRecDepth 100000
set_option maxHeartbeats 2000000
namespace DD
open PySem PySem.Spec PyProof.Rows L2
end DD
set_option Elab.async false
set_option linter.all false
set_option maxRecDepth 100000
set_option maxHeartbeats 2000000
namespace DL
open PySem PySem.Spec PyProof.Rows L2 DD
end DL
set_option Elab.async false
set_option linter.all false
set_option maxRecDepth 100000
set_option maxHeartbeats 2000000
namespace DL
open PySem PySem.Spec PyProof.Rows L2 DD
abbrev Mw := List (Int × Int × Bool)
def mwD (m : Int × Int × Bool) : D := .tup [.int m.1, .int m.2.1, .bl m.2.2]
def rowT (r : Mw) : D := .tup (r.map mwD)
def secs (s : Bool) : List Bool := if s then [false, true] else [false]
/-- the rows that begin with a meeting from k to k + 1 + j -/
def rowsOf (k : Int) (T : List (List Mw)) (j : Nat) (b : Bool) : List Mw := (T[j]?.getD []).map fun r => (k, k + 1 + j, b) :: r
def grown (k : Int) (s : Bool) (T : List (List Mw)) (i : Nat) : List Mw := T.headD [] ++ (List.range i).flatMap fun j => (secs s).flatMap fun b => rowsOf k T j b
def tab (n : Nat) (s : Bool) : Nat → List (List Mw)
  | 0 => [[[]]]
  | i + 1 => grown ((n : Int) - 1 - i) s (tab n s i) (i + 1) :: tab n s i
def rowsD (rows : List Mw) : D := .lst (rows.map rowT)
def wholeD (n : Nat) (s : Bool) (i : Nat) : List D := List.replicate (n - i) (.lst []) ++ (tab n s i).map rowsD
theorem tab_len {n : Nat} {s : Bool} : ∀ i, (tab n s i).length = i + 1
  | 0 => rfl
  | i + 1 => by rw [tab, List.length_cons, tab_len i]
def bnd : Nat → Nat
  | 0 => 1
  | i + 1 => bnd i * (2 * i + 3)
theorem bnd_le : ∀ i, bnd i ≤ bnd (i + 1)
  | i => by
    show bnd i ≤ bnd i * (2 * i + 3)
    exact Nat.le_mul_of_pos_right _ (by omega)
theorem bnd_mono {i j : Nat} (h : i ≤ j) : bnd i ≤ bnd j := by
  induction h with
  | refl => exact Nat.le_refl _
  | step _ ih => exact Nat.le_trans ih (bnd_le _)
theorem rowsOf_len {k : Int} {T : List (List Mw)} {B : Nat} (h : ∀ r ∈ T, r.length ≤ B) {j : Nat} {b : Bool} : (rowsOf k T j b).length ≤ B := by
  unfold rowsOf
  rw [List.length_map]
  cases e : T[j]? with
  | none => simp
  | some r => exact h r (List.mem_of_getElem? e)
theorem secs_len {s : Bool} : (secs s).length ≤ 2 := by cases s <;> simp [secs]
theorem flat_le {α β : Type} {f : α → List β} {B : Nat} : ∀ (xs : List α), (∀ x ∈ xs, (f x).length ≤ B) → (xs.flatMap f).length ≤ xs.length * B
  | [], _ => by simp
  | x :: xs, h => by
    rw [List.flatMap_cons, List.length_append, List.length_cons]
    have h1 := flat_le xs fun y hy => h y (by simp [hy])
    have h2 := h x (by simp)
    have : (xs.length + 1) * B = xs.length * B + B := by rw [Nat.add_mul, Nat.one_mul]
    omega
theorem grown_len {k : Int} {s : Bool} {T : List (List Mw)} {B : Nat} (h : ∀ r ∈ T, r.length ≤ B) {i : Nat} : (grown k s T i).length ≤ B * (2 * i + 1) := by
  unfold grown
  rw [List.length_append]
  have h1 : (T.headD []).length ≤ B := by
    cases T with
    | nil => simp
    | cons r T => exact h r (by simp)
  have h2 := flat_le (f := fun j => (secs s).flatMap fun b => rowsOf k T j b) (B := 2 * B) (List.range i) fun j _ => by
    have := flat_le (f := fun b => rowsOf k T j b) (B := B) (secs s) fun b _ => rowsOf_len h
    have h3 := secs_len (s := s)
    exact Nat.le_trans this (Nat.mul_le_mul_right _ h3)
  rw [List.length_range] at h2
  have : B * (2 * i + 1) = i * (2 * B) + B := by rw [Nat.mul_add, Nat.mul_one, ← Nat.mul_assoc, Nat.mul_comm B 2, Nat.mul_comm (2 * B) i]
  omega
theorem tab_row_len {n : Nat} {s : Bool} : ∀ i, ∀ r ∈ tab n s i, r.length ≤ bnd i
  | 0, r, h => by
    simp [tab] at h
    subst h
    simp [bnd]
  | i + 1, r, h => by
    rw [tab] at h
    rcases List.mem_cons.mp h with rfl | h
    · have := grown_len (k := (n : Int) - 1 - i) (s := s) (T := tab n s i) (tab_row_len i) (i := i + 1)
      show _ ≤ bnd i * (2 * i + 3)
      rw [show 2 * i + 3 = 2 * (i + 1) + 1 by omega]
      exact this
    · exact Nat.le_trans (tab_row_len i r h) (bnd_le i)
section
variable {K : Fg} {E : XK} {F : Fm} {G G' H H' : Hp} {σ : L2.St} {ρ : En}
def Plain (ρ : En) : Prop := ∀ (i : Nat) (s : Slot), ρ[i]? = some s → (∃ d, s = .val d) ∨ s = .none
theorem Rl.noMp (R : Rl K F G H σ ρ) (hp : Plain ρ) (i : Nat) (a : Addr) : F.M i ≠ some a := fun h => by
  obtain ⟨_, _, o, h3⟩ := R.hm i a h
  rcases hp i _ h3 with ⟨d, e⟩ | e <;> cases e
theorem Rl.replain (R : Rl K F G H σ ρ) (hp : Plain ρ) (g : Same G G') (gh : Same G' H') (gn : ∀ a o, G' a = some o → F.G0 a = none → F.H0 a = none) (hk : ∀ a o, F.H0 a = some o → H' a = some o) : Rl K F G' H' σ ρ where
  gh := gh
  g0 := R.g0.trans g
  gn := gn
  hk := fun a o h _ => hk a o h
  hm := fun i a h => absurd h (R.noMp hp i a)
  hl := R.hl
  sl := fun i s h => by
    obtain ⟨x, h1, h2⟩ := R.sl i s h
    refine ⟨x, h1, ?_⟩
    rcases hp i s h with ⟨d, rfl⟩ | rfl
    · obtain ⟨v, e1, e2⟩ := h2
      exact ⟨v, e1, e2.mono g⟩
    · trivial
  di := fun i j o o' a h1 => by
    rcases hp i _ h1 with ⟨d, e⟩ | e <;> cases e
  mi := fun i j a h => absurd h (R.noMp hp i a)
theorem Rl.hkp (R : Rl K F G H σ ρ) (hp : Plain ρ) : ∀ a o, F.H0 a = some o → H a = some o := fun a o h => R.hk a o h fun i => R.noMp hp i a
def ρ0 (n : Int) (s : Bool) : En := [.val (.int n), .val (.bl s), .none, .none, .none, .none, .none, .none]
theorem plain0 {n : Int} {s : Bool} : Plain (ρ0 n s) := fun i t h => by
  match i, h with
  | 0, h => cases h; exact .inl ⟨_, rfl⟩
  | 1, h => cases h; exact .inl ⟨_, rfl⟩
  | 2, h => cases h; exact .inr rfl
  | 3, h => cases h; exact .inr rfl
  | 4, h => cases h; exact .inr rfl
  | 5, h => cases h; exact .inr rfl
  | 6, h => cases h; exact .inr rfl
  | 7, h => cases h; exact .inr rfl
/-- the state while one inner list grows: a the outer list, p the inner one at k, us its content so far -/
structure Mid (K : Fg) (F : Fm) (n : Int) (s : Bool) (k : Nat) (DS : List D) (a p : Addr) (G H : Hp) (σ : L2.St) (es : List D) : Prop where
  R : Rl K F G H σ (ρ0 n s)
  s2 : σ[2]? = some (some (.ref a))
  s3 : σ[3]? = some (some (.int k))
  a0 : F.H0 a = none
  ag : G a = none
  p0 : F.H0 p = none
  pg : G p = none
  ne : p ≠ a
  hk : k < DS.length
  vs : ∃ vs, H a = some (.lst (vs.set k (.ref p))) ∧ RepA K G vs DS
  ws : ∃ ws, H p = some (.lst ws) ∧ RepA K G ws es
variable {n : Int} {s : Bool} {k : Nat} {DS es : List D} {a p : Addr}
theorem Mid.size (M : Mid K F n s k DS a p G H σ es) : σ[0]? = some (some (.int n)) := by
  obtain ⟨x, h1, v, rfl, h2⟩ := M.R.sl 0 (.val (.int n)) rfl
  cases h2
  exact h1
theorem Mid.secret (M : Mid K F n s k DS a p G H σ es) : σ[1]? = some (some (.bl s)) := by
  obtain ⟨x, h1, v, rfl, h2⟩ := M.R.sl 1 (.val (.bl s)) rfl
  cases h2
  exact h1
/-- the inner list changes -/
theorem Mid.upd {es' : List D} {ws' : List V} (M : Mid K F n s k DS a p G H σ es) (r : RepA K G ws' es') : Mid K F n s k DS a p G (upd H p (.lst ws')) σ es' where
  R := M.R.replain plain0 (Same.refl G) (fun b o e => by
    rw [upd_ne (fun q => by rw [q, M.pg] at e; cases e)]
    exact M.R.gh b o e) M.R.gn fun b o e => by
    rw [upd_ne (fun q => by rw [q, M.p0] at e; cases e)]
    exact M.R.hkp plain0 b o e
  s2 := M.s2
  s3 := M.s3
  a0 := M.a0
  ag := M.ag
  p0 := M.p0
  pg := M.pg
  ne := M.ne
  hk := M.hk
  vs := by
    obtain ⟨vs, h1, h2⟩ := M.vs
    exact ⟨vs, by rw [upd_ne (Ne.symm M.ne)]; exact h1, h2⟩
  ws := ⟨ws', upd_same, r⟩
/-- the heap grows -/
theorem Mid.grow (M : Mid K F n s k DS a p G H σ es) (e : Same H H') : Mid K F n s k DS a p G H' σ es where
  R := M.R.replain plain0 (Same.refl G) (M.R.gh.trans e) M.R.gn fun b o h => e b o (M.R.hkp plain0 b o h)
  s2 := M.s2
  s3 := M.s3
  a0 := M.a0
  ag := M.ag
  p0 := M.p0
  pg := M.pg
  ne := M.ne
  hk := M.hk
  vs := by
    obtain ⟨vs, h1, h2⟩ := M.vs
    exact ⟨vs, e _ _ h1, h2⟩
  ws := by
    obtain ⟨ws, h1, h2⟩ := M.ws
    exact ⟨ws, e _ _ h1, h2⟩
/-- a name is stored to -/
theorem Mid.put {i : Nat} {x : Option V} (M : Mid K F n s k DS a p G H σ es) (h : i = 4 ∨ i = 5) : Mid K F n s k DS a p G H (σ.set i x) es where
  R := by
    have := M.R.forget (i := i) (x := x) (by rcases h with rfl | rfl <;> rfl)
    rcases h with rfl | rfl <;> exact this
  s2 := by rw [List.getElem?_set_ne (by omega)]; exact M.s2
  s3 := by rw [List.getElem?_set_ne (by omega)]; exact M.s3
  a0 := M.a0
  ag := M.ag
  p0 := M.p0
  pg := M.pg
  ne := M.ne
  hk := M.hk
  vs := M.vs
  ws := M.ws
theorem Rep.mw {v : V} {m : Int × Int × Bool} (hT : ∀ x xs, SqT K G x xs → SqT K G' x xs) (h : Rep K G v (mwD m)) : Rep K G' v (mwD m) := by
  cases h with
  | tup g r =>
    cases r with
    | cons h1 r =>
      cases r with
      | cons h2 r =>
        cases r with
        | cons h3 r =>
          cases r
          cases h1; cases h2; cases h3
          exact .tup (hT _ _ g) (.cons (.int _) (.cons (.int _) (.cons (.bl _) .nil)))
theorem RepA.mws (hT : ∀ x xs, SqT K G x xs → SqT K G' x xs) : ∀ {r : Mw} {vs : List V}, RepA K G vs (r.map mwD) → RepA K G' vs (r.map mwD)
  | [], _, .nil => .nil
  | m :: r, _, .cons h t => .cons (h.mw hT) (RepA.mws hT t)
theorem RepA.rows (hT : ∀ x xs, SqT K G x xs → SqT K G' x xs) : ∀ {rs : List Mw} {vs : List V}, RepA K G vs (rs.map rowT) → RepA K G' vs (rs.map rowT)
  | [], _, .nil => .nil
  | r :: rs, _, .cons h t => by
    refine .cons ?_ (RepA.rows hT t)
    cases h with
    | tup g r => exact .tup (hT _ _ g) (r.mws hT)
def tComp (K : Fg) : TE := tLc (iSeq K (tOp (rIx K) (tVar 2) (tVar 4))) (gName 7) tYes (tOp (rAdd4 K) (tTup (tCons (tTup (tCons (tVar 3) (tCons (tVar 4) (tCons (tVar 5) tNil)))) tNil)) (tVar 7)) [7]
def dComp : En → Res X := dLcS (dBin opIx (dVar 2) (dVar 4)) [7] (uName 7) tdYes (dBin opAdd (dTup (aCons (dTup (aCons (dVar 3) (aCons (dVar 4) (aCons (dVar 5) aNil)))) aNil)) (dVar 7))
theorem L_comp : LE K E0 (tComp K) dComp := L_lcS (Et := E0) (Ea := E0) (L_bin S_ix (L_var (i := 2)) (L_var (i := 4))) (U_name (by decide)) L_yes (L_bin S_add4 (L_tup (A_cons (L_tup (A_cons (L_var (i := 3)) (A_cons (L_var (i := 4)) (A_cons (L_var (i := 5)) A_nil)))) A_nil)) (L_var (i := 7)))
/-- the slots as the comprehension finds them -/
def rc (n : Int) (s : Bool) (DS : List D) (k e : Nat) (b : Bool) : En := [.val (.int n), .val (.bl s), .val (.lst DS), .val (.int k), .val (.int e), .val (.bl b), .none, .none]
theorem atI_nat {α : Type} {xs : List α} {e : Nat} {x : α} (h : xs[e]? = some x) : atI xs (e : Int) = some x := by
  have hl : e < xs.length := (List.getElem?_eq_some_iff.mp h).1
  unfold atI
  have : ixN xs.length (e : Int) = some e := by
    unfold ixN
    rw [if_pos (by omega), if_pos (by omega)]
    rfl
  rw [this]
  exact h
theorem comp_loop {n : Int} {s b : Bool} {DS : List D} {k e : Nat} : ∀ (rows : List Mw) (acc : List D), acc.length + rows.length ≤ 10000000 → (∀ r ∈ rows, r.length ≤ 1000) →
    lcL [7] (uName 7) tdYes (dBin opAdd (dTup (aCons (dTup (aCons (dVar 3) (aCons (dVar 4) (aCons (dVar 5) aNil)))) aNil)) (dVar 7)) (rows.map rowT) (rc n s DS k e b) acc = .ok (acc ++ (rows.map fun r => ((k : Int), (e : Int), b) :: r).map rowT) (rc n s DS k e b)
  | [], acc, _, _ => by simp [lcL]
  | r :: rows, acc, h, hr => by
    have hz := sizeLine_eq
    have h1 : r.length ≤ 1000 := hr r (by simp)
    have h2 : acc.length < sizeLine := by rw [hz]; simp at h; omega
    have ih := comp_loop (n := n) (s := s) (b := b) (DS := DS) (k := k) (e := e) rows (acc ++ [rowT (((k : Int), (e : Int), b) :: r)]) (by simp at h ⊢; omega) fun x hx => hr x (by simp [hx])
    have st : dBin opAdd (dTup (aCons (dTup (aCons (dVar 3) (aCons (dVar 4) (aCons (dVar 5) aNil)))) aNil)) (dVar 7) [.val (.int n), .val (.bl s), .val (.lst DS), .val (.int k), .val (.int e), .val (.bl b), .none, .val (rowT r)] = .ok (.val (rowT (((k : Int), (e : Int), b) :: r))) [.val (.int n), .val (.bl s), .val (.lst DS), .val (.int k), .val (.int e), .val (.bl b), .none, .val (rowT r)] := by
      have z3 : (3 : Nat) ≤ sizeLine := by rw [hz]; omega
      have z1 : (1 : Nat) ≤ sizeLine := by rw [hz]; omega
      have zr : 1 + r.length ≤ sizeLine := by rw [hz]; omega
      simp [dBin, dTup, aCons, aNil, dVar, Res.bind, toVals, toVal, X.settle, ap2, deref, Slot.dd, z3, z1, zr, rowT, mwD, lift]
    rw [List.map_cons]
    show (match some [.val (.int n), .val (.bl s), .val (.lst DS), .val (.int k), .val (.int e), .val (.bl b), .none, .val (rowT r)] with
      | none => Res.stuck
      | some ρ1 => match tdYes ρ1 with
        | .ok true ρ2 => match dBin opAdd (dTup (aCons (dTup (aCons (dVar 3) (aCons (dVar 4) (aCons (dVar 5) aNil)))) aNil)) (dVar 7) ρ2 with
          | .ok x ρ3 => match toVal ρ3 x with
            | some (e', ρ4) => if acc.length < sizeLine ∧ [7].all (freeAt ρ4) = true then lcL [7] (uName 7) tdYes (dBin opAdd (dTup (aCons (dTup (aCons (dVar 3) (aCons (dVar 4) (aCons (dVar 5) aNil)))) aNil)) (dVar 7)) (rows.map rowT) (wipeN ρ4 [7]) (acc ++ [e']) else .stuck
            | none => .stuck
          | _ => .stuck
        | .ok false ρ2 => if [7].all (freeAt ρ2) = true then lcL [7] (uName 7) tdYes (dBin opAdd (dTup (aCons (dTup (aCons (dVar 3) (aCons (dVar 4) (aCons (dVar 5) aNil)))) aNil)) (dVar 7)) (rows.map rowT) (wipeN ρ2 [7]) acc else .stuck
        | _ => .stuck) = _
    dsimp only [tdYes]
    rw [st]
    dsimp only [toVal]
    rw [if_pos ⟨h2, rfl⟩]
    refine Eq.trans ih ?_
    rw [List.map_cons, List.map_cons, List.append_assoc]
    rfl
theorem dComp_v {n : Int} {s b : Bool} {DS : List D} {k e : Nat} {rows : List Mw} (h : DS[e]? = some (rowsD rows)) (hz : rows.length ≤ 1000000) (hr : ∀ r ∈ rows, r.length ≤ 1000) :
    dComp (rc n s DS k e b) = .ok (.new (.lst ((rows.map fun r => ((k : Int), (e : Int), b) :: r).map rowT))) (rc n s DS k e b) := by
  have h1 : seqOf (dBin opIx (dVar 2) (dVar 4)) (rc n s DS k e b) = .ok (none, rows.map rowT) (rc n s DS k e b) := by
    have := atI_nat h
    simp [seqOf, rc, dBin, dVar, Res.bind, X.settle, ap2, deref, Slot.dd, this, lift, rowsD, D.items]
  have h2 := comp_loop (n := n) (s := s) (b := b) (DS := DS) (k := k) (e := e) rows [] (by simp; omega) hr
  unfold dComp dLcS
  rw [h1]
  show lcAll _ _ _ _ _ _ = _
  unfold lcAll
  rw [if_pos (show [7].all (freeAt (rc n s DS k e b)) = true from rfl)]
  show (match lcL [7] (uName 7) tdYes (dBin opAdd (dTup (aCons (dTup (aCons (dVar 3) (aCons (dVar 4) (aCons (dVar 5) aNil)))) aNil)) (dVar 7)) (rows.map rowT) (rc n s DS k e b) [] with
    | Res.ok es ρ2 => Res.ok (X.new (.lst es)) ρ2
    | _ => Res.stuck) = _
  rw [h2]
  rfl
/-- the comprehension, while an inner list grows -/
theorem comp_ok {e : Nat} {b : Bool} {rows : List Mw} {Q : VK} (M : Mid K F n s k DS a p G H σ es) (s4 : σ[4]? = some (some (.int e))) (s5 : σ[5]? = some (some (.bl b))) (hke : k ≠ e)
    (hd : DS[e]? = some (rowsD rows)) (hz : rows.length ≤ 1000000) (hr : ∀ r ∈ rows, r.length ≤ 1000)
    (q : ∀ G' H' x ws', Same H H' → H x = none → H' x = some (.lst ws') → Mid K F n s k DS a p G' H' σ es → RepA K G' ws' ((rows.map fun r => ((k : Int), (e : Int), b) :: r).map rowT) → Q (.ref x) H') : tComp K σ H Q := by
  obtain ⟨vs, va, vr⟩ := M.vs
  obtain ⟨ws, wa, wr⟩ := M.ws
  have R := M.R
  let G1 : Hp := upd (upd G p (.lst ws)) a (.lst (vs.set k (.ref p)))
  have g1a : G1 a = some (.lst (vs.set k (.ref p))) := upd_same
  have g1p : G1 p = some (.lst ws) := by
    show upd (upd G p (.lst ws)) a _ p = _
    rw [upd_ne M.ne]
    exact upd_same
  have g1o : ∀ b, b ≠ a → b ≠ p → G1 b = G b := fun b h1 h2 => by
    show upd (upd G p (.lst ws)) a _ b = _
    rw [upd_ne h1, upd_ne h2]
  have sG : Same G G1 := fun b o h => by
    rw [g1o b (fun z => by rw [z, M.ag] at h; cases h) (fun z => by rw [z, M.pg] at h; cases h)]
    exact h
  have sH : Same G1 H := fun b o h => by
    by_cases h1 : b = a
    · subst h1; rw [g1a] at h; cases h; exact va
    · by_cases h2 : b = p
      · subst h2; rw [g1p] at h; cases h; exact wa
      · rw [g1o b h1 h2] at h; exact R.gh b o h
  have DSr : RepA K G1 (vs.set k (.ref p)) (DS.set k (.lst es)) := (vr.mono sG).set k (.lst g1p (wr.mono sG))
  have hdc : (DS.set k (.lst es))[e]? = some (rowsD rows) := by rw [List.getElem?_set_ne hke]; exact hd
  have R1 : Rl K ⟨H, G1, fun _ => none, fun _ => none⟩ G1 H σ (rc n s (DS.set k (.lst es)) k e b) := by
    refine ⟨sH, Same.refl _, fun b o h1 h2 => ?_, fun b o h _ => h, fun i b h => ?_, fun i b h => ?_, fun i t h => ?_, fun i j o o' b h1 => ?_, fun i j b h => ?_⟩
    · rw [show (Fm.mk H G1 (fun _ => none) fun _ => none).G0 b = G1 b from rfl, h1] at h2
      cases h2
    · cases h
    · cases h
    · match i, h with
      | 0, h => cases h; exact ⟨_, M.size, _, rfl, .int _⟩
      | 1, h => cases h; exact ⟨_, M.secret, _, rfl, .bl _⟩
      | 2, h => cases h; exact ⟨_, M.s2, _, rfl, .lst g1a DSr⟩
      | 3, h => cases h; exact ⟨_, M.s3, _, rfl, .int _⟩
      | 4, h => cases h; exact ⟨_, s4, _, rfl, .int _⟩
      | 5, h => cases h; exact ⟨_, s5, _, rfl, .bl _⟩
      | 6, h => cases h; obtain ⟨x, h1, _⟩ := R.sl 6 .none rfl; exact ⟨x, h1, trivial⟩
      | 7, h => cases h; obtain ⟨x, h1, _⟩ := R.sl 7 .none rfl; exact ⟨x, h1, trivial⟩
    · exfalso
      match i, h1 with
      | 0, h => cases h
      | 1, h => cases h
      | 2, h => cases h
      | 3, h => cases h
      | 4, h => cases h
      | 5, h => cases h
      | 6, h => cases h
      | 7, h => cases h
    · cases h
  refine L_comp _ G1 H σ _ Q R1 ?_
  rw [dComp_v hdc hz hr]
  rintro v G2 H2 R2 s2 ⟨x, rfl, hx0, hxg, ⟨ws', hx, hr'⟩, _⟩
  have hx0' : H x = none := hx0
  have HH : Same H H2 := fun b o h => R2.hk b o h fun i z => by cases z
  let G3 : Hp := fun b => if b = a ∨ b = p then none else G2 b
  have g3 : ∀ b o, G3 b = some o → b ≠ a ∧ b ≠ p ∧ G2 b = some o := fun b o h => by
    by_cases h1 : b = a ∨ b = p
    · rw [show G3 b = if b = a ∨ b = p then none else G2 b from rfl, if_pos h1] at h
      cases h
    · rw [show G3 b = if b = a ∨ b = p then none else G2 b from rfl, if_neg h1] at h
      exact ⟨fun z => h1 (.inl z), fun z => h1 (.inr z), h⟩
  have g3' : ∀ b, b ≠ a → b ≠ p → G3 b = G2 b := fun b h1 h2 => by
    show (if b = a ∨ b = p then none else G2 b) = _
    rw [if_neg (by rintro (z | z); exact h1 z; exact h2 z)]
  have G2a : G2 a = some (.lst (vs.set k (.ref p))) := s2 _ _ g1a
  have G2p : G2 p = some (.lst ws) := s2 _ _ g1p
  have sG3 : Same G G3 := fun b o h => by
    have h1 : b ≠ a := fun z => by rw [z, M.ag] at h; cases h
    have h2 : b ≠ p := fun z => by rw [z, M.pg] at h; cases h
    rw [g3' b h1 h2]
    exact s2 _ _ (sG _ _ h)
  have hT : ∀ y xs, SqT K G2 y xs → SqT K G3 y xs := fun y xs h => by
    rcases h with (h | ⟨o, h⟩) | h
    · refine .inl (.inl ?_)
      rw [g3' y (fun z => by rw [z, G2a] at h; cases h) (fun z => by rw [z, G2p] at h; cases h)]
      exact h
    · refine .inl (.inr ⟨o, ?_⟩)
      rw [g3' y (fun z => by rw [z, G2a] at h; cases h) (fun z => by rw [z, G2p] at h; cases h)]
      exact h
    · exact .inr h
  refine q G3 H2 x ws' HH hx0' hx ⟨?_, M.s2, M.s3, M.a0, ?_, M.p0, ?_, M.ne, M.hk, ⟨vs, HH _ _ va, vr.mono sG3⟩, ⟨ws, HH _ _ wa, wr.mono sG3⟩⟩ (hr'.rows hT)
  · refine R.replain plain0 sG3 (fun b o h => R2.gh b o (g3 b o h).2.2) (fun b o h h0 => ?_) fun b o h => HH b o (R.hkp plain0 b o h)
    obtain ⟨h1, h2, h3⟩ := g3 b o h
    cases hg : G1 b with
    | none => exact R.fresh (R2.gn b o h3 hg)
    | some o' =>
      rw [g1o b h1 h2] at hg
      exact R.gn b o' hg h0
  · show (if a = a ∨ a = p then none else G2 a) = none
    rw [if_pos (.inl rfl)]
  · show (if p = a ∨ p = p then none else G2 p) = none
    rw [if_pos (.inr rfl)]
def tExt (K : Fg) : TS := tDrop (tBM K "list" rExtend (tOp (rIx K) (tVar 2) (tVar 3)) (tCons (tComp K) tNil))
theorem ext_ok {e : Nat} {b : Bool} {rows : List Mw} {D0 : Ends} (M : Mid K F n s k DS a p G H σ es) (s4 : σ[4]? = some (some (.int e))) (s5 : σ[5]? = some (some (.bl b))) (hke : k ≠ e)
    (hd : DS[e]? = some (rowsD rows)) (hz : rows.length ≤ 1000000) (hr : ∀ r ∈ rows, r.length ≤ 1000) (hes : es.length + rows.length ≤ 10000000)
    (q : ∀ G' H', Same (fun x => if x = p then none else H x) H' → Mid K F n s k DS a p G' H' σ (es ++ (rows.map fun r => ((k : Int), (e : Int), b) :: r).map rowT) → D0.nx σ H') : tExt K D0 σ H := by
  obtain ⟨vs, va, vr⟩ := M.vs
  obtain ⟨ws, wa, wr⟩ := M.ws
  have hkv : k < vs.length := by rw [vr.len]; exact M.hk
  have hat : atI (vs.set k (V.ref p)) (k : Int) = some (V.ref p) := atI_nat (by rw [List.getElem?_set_self hkv])
  show ∃ v, _ ∧ _
  refine ⟨_, M.s2, _, M.s3, .inl ⟨a, _, (k : Int), .ref p, rfl, rfl, .inl (.inl va), hat, .inl ⟨rfl, ws, .inl (.inl wa)⟩, ?_⟩⟩
  refine comp_ok M s4 s5 hke hd hz hr fun G' H' x ws' HH hx0 hx M' r' => ?_
  have hzl := sizeLine_eq
  have hl1 := wr.len
  have hl2 := r'.len
  rw [List.length_map, List.length_map] at hl2
  obtain ⟨ws2, wa2, wr2⟩ := M'.ws
  have : ws2 = ws := by
    have := HH _ _ wa
    rw [wa2] at this
    cases this
    rfl
  subst this
  refine ⟨p, x, ws2, ws', rfl, rfl, wa2, hx, by rw [hzl]; omega, ?_⟩
  refine q G' _ (fun y o hy => ?_) (M'.upd (wr2.app r'))
  dsimp only at hy
  by_cases hyp : y = p
  · rw [if_pos hyp] at hy
    cases hy
  · rw [if_neg hyp] at hy
    rw [upd_ne hyp]
    exact HH _ _ hy
def tSecs (K : Fg) : TS := tFor (iSeq K (tIf (tB (tVar 1)) (tLst (tCons (tC (.bl false)) (tCons (tC (.bl true)) tNil))) (tLst (tCons (tC (.bl false)) tNil)))) (gName 5) (tExt K)
def addB (k e : Nat) (rows : List Mw) (bs : List Bool) : List Mw := bs.flatMap fun b => rows.map fun r => ((k : Int), (e : Int), b) :: r
theorem addB_len {k e : Nat} {rows : List Mw} (bs : List Bool) : (addB k e rows bs).length = bs.length * rows.length := by
  induction bs with
  | nil => simp [addB]
  | cons b bs ih =>
    show ((rows.map fun r => ((k : Int), (e : Int), b) :: r) ++ addB k e rows bs).length = _
    rw [List.length_append, ih, List.length_map, List.length_cons, Nat.add_mul, Nat.one_mul, Nat.add_comm]
theorem secs_ok {e : Nat} {rows : List Mw} {D0 : Ends} (M : Mid K F n s k DS a p G H σ es) (s4 : σ[4]? = some (some (.int e))) (hl5 : 5 < σ.length) (hke : k ≠ e)
    (hd : DS[e]? = some (rowsD rows)) (hz : rows.length ≤ 1000000) (hr : ∀ r ∈ rows, r.length ≤ 1000) (hes : es.length + 2 * rows.length ≤ 10000000)
    (q : ∀ G' H' σ', Mid K F n s k DS a p G' H' σ' (es ++ (addB k e rows (secs s)).map rowT) → σ'.length = σ.length → D0.nx σ' H') : tSecs K D0 σ H := by
  have core : ∀ q0, H q0 = none → ∃ W : Nat → Nat → L2.St → Hp → Prop, (∃ m, W 0 m σ (upd H q0 (.lst ((secs s).map V.bl)))) ∧ ∀ i m σ H, W i m σ H →
      ((Itl K q0).stop i H ∧ D0.nx σ H) ∨ ((Itl K q0).go i H ∧ ∃ N : L2.St → Hp → Prop, (∀ σ' H', N σ' H' → ∃ m', m' < m ∧ W (i + 1) m' σ' H') ∧ ∀ x H', (Itl K q0).yld i H x H' → gName 5 x σ H' fun σ2 H2 => tExt K { D0 with nx := N, ct := N, bk := D0.nx } σ2 H2) := by
    intro q0 hq0
    have hqp : q0 ≠ p := fun z => by
      obtain ⟨ws, wa, _⟩ := M.ws
      rw [← z, hq0] at wa
      cases wa
    refine ⟨fun i m σ' H' => i + m = (secs s).length ∧ σ'.length = σ.length ∧ σ'[4]? = some (some (.int e)) ∧ H' q0 = some (.lst ((secs s).map V.bl)) ∧ ∃ G', Mid K F n s k DS a p G' H' σ' (es ++ (addB k e rows ((secs s).take i)).map rowT), ⟨(secs s).length, by omega, rfl, s4, upd_same, G, ?_⟩, ?_⟩
    · have := M.grow (smNew (o := .lst ((secs s).map V.bl)) hq0)
      simpa [addB] using this
    · rintro i m σ1 H1 ⟨him, hl, g4, hq, G1, M1⟩
      have hS : SqL K H1 q0 ((secs s).map V.bl) := .inl (.inl hq)
      cases m with
      | zero =>
        refine .inl ⟨⟨_, hS, by rw [List.length_map]; omega⟩, ?_⟩
        have : (secs s).take i = secs s := List.take_of_length_le (by omega)
        rw [this] at M1
        exact q G1 H1 σ1 M1 hl
      | succ m =>
        have hi : i < (secs s).length := by omega
        have hv : ((secs s).map V.bl)[i]? = some (V.bl (secs s)[i]) := by
          rw [List.getElem?_map, List.getElem?_eq_getElem hi]
          rfl
        refine .inr ⟨⟨_, _, hS, hv⟩, fun σ2 H2 => (i + 1) + m = (secs s).length ∧ σ2.length = σ.length ∧ σ2[4]? = some (some (.int e)) ∧ H2 q0 = some (.lst ((secs s).map V.bl)) ∧ ∃ G', Mid K F n s k DS a p G' H2 σ2 (es ++ (addB k e rows ((secs s).take (i + 1))).map rowT), fun σ2 H2 h => ⟨m, by omega, h⟩, fun x H2 hy => ?_⟩
        obtain ⟨rfl, hy⟩ := hy
        have hx := hy _ hS
        rw [hv] at hx
        cases hx
        show tExt K _ (σ1.set 5 _) H2
        have h2 := secs_len (s := s)
        have hal := addB_len (k := k) (e := e) (rows := rows) ((secs s).take i)
        refine ext_ok (b := (secs s)[i]) (M1.put (.inr rfl)) (by rw [List.getElem?_set_ne (by omega)]; exact g4) (by rw [List.getElem?_set_self (by omega)]) hke hd hz hr ?_ fun G' H' sm M2 => ?_
        · rw [List.length_append, List.length_map, hal, List.length_take]
          have h3 : min i (secs s).length ≤ 1 := by omega
          have h4 : min i (secs s).length * rows.length ≤ 1 * rows.length := Nat.mul_le_mul_right _ h3
          omega
        · refine ⟨by omega, by rw [List.length_set]; exact hl, by rw [List.getElem?_set_ne (by omega)]; exact g4, sm _ _ (by dsimp only; rw [if_neg hqp]; exact hq), G', ?_⟩
          have e2 : addB k e rows ((secs s).take (i + 1)) = addB k e rows ((secs s).take i) ++ rows.map fun r => ((k : Int), (e : Int), (secs s)[i]) :: r := by
            rw [List.take_add_one, List.getElem?_eq_getElem hi]
            unfold addB
            rw [List.flatMap_append]
            simp
          rw [e2, List.map_append, ← List.append_assoc]
          exact M2
  have hzl := sizeLine_eq
  refine ⟨_, M.secret, s, rfl, ?_⟩
  cases s with
  | false =>
    rw [if_neg (by simp)]
    exact ⟨by rw [hzl]; simp, fun q0 hq0 => ⟨q0, rfl, .inl ⟨⟨_, .inl (.inl upd_same)⟩, core q0 hq0⟩⟩⟩
  | true =>
    rw [if_pos rfl]
    exact ⟨by rw [hzl]; simp, fun q0 hq0 => ⟨q0, rfl, .inl ⟨⟨_, .inl (.inl upd_same)⟩, core q0 hq0⟩⟩⟩
def tEnds (K : Fg) : TS := tFor (iRng2 (tCons (tOp (rAdd4 K) (tVar 3) (tC (.int 1))) (tCons (tOp (rAdd4 K) (tVar 0) (tC (.int 1))) tNil))) (gName 4) (tSecs K)
theorem grown_succ {kz : Int} {s : Bool} {T : List (List Mw)} {j : Nat} : grown kz s T (j + 1) = grown kz s T j ++ (secs s).flatMap fun b => rowsOf kz T j b := by
  unfold grown
  rw [List.range_succ, List.flatMap_append, List.append_assoc]
  simp
theorem addB_rows {k j : Nat} {T : List (List Mw)} {s : Bool} : (secs s).flatMap (fun b => rowsOf (k : Int) T j b) = addB k (k + 1 + j) (T[j]?.getD []) (secs s) := by
  unfold addB rowsOf
  have : ((k + 1 + j : Nat) : Int) = (k : Int) + 1 + j := by omega
  rw [this]
theorem ends_ok {T : List (List Mw)} {N i B : Nat} {D0 : Ends} (hn : n = (N : Int)) (hki : k + i + 1 = N) (hN : N ≤ 1000) (hl8 : 8 ≤ σ.length) (hT : ∀ j, j < i + 1 → DS[k + 1 + j]? = some (rowsD (T[j]?.getD [])))
    (hB : ∀ r ∈ T, r.length ≤ B) (hB1 : B ≤ 1000000) (hB2 : B * (2 * (i + 1) + 1) ≤ 10000000) (hr : ∀ r ∈ T, ∀ x ∈ r, x.length ≤ 1000)
    (M : Mid K F n s k DS a p G H σ ((T.headD []).map rowT)) (q : ∀ G' H' σ', Mid K F n s k DS a p G' H' σ' ((grown (k : Int) s T (i + 1)).map rowT) → 8 ≤ σ'.length → D0.nx σ' H') : tEnds K D0 σ H := by
  have hcnt : ((n + 1) - ((k : Int) + 1)).toNat = i + 1 := by omega
  refine ⟨_, M.s3, .inl ⟨(k : Int), 1, rfl, rfl, _, M.size, .inl ⟨n, 1, rfl, rfl, (k : Int) + 1, n + 1, rfl, ⟨by omega, by omega, by omega, by omega⟩, ?_⟩⟩⟩
  rw [hcnt]
  refine ⟨fun j m σ' H' => j + m = i + 1 ∧ 8 ≤ σ'.length ∧ ∃ G', Mid K F n s k DS a p G' H' σ' ((grown (k : Int) s T j).map rowT), ⟨i + 1, by omega, hl8, G, ?_⟩, ?_⟩
  · simpa [grown] using M
  · rintro j m σ1 H1 ⟨hjm, hl, G1, M1⟩
    cases m with
    | zero =>
      have hj : j = i + 1 := by omega
      subst hj
      exact .inl ⟨Nat.le_refl _, q G1 H1 σ1 M1 hl⟩
    | succ m =>
      refine .inr ⟨show j < i + 1 by omega, fun σ2 H2 => (j + 1) + m = i + 1 ∧ 8 ≤ σ2.length ∧ ∃ G', Mid K F n s k DS a p G' H2 σ2 ((grown (k : Int) s T (j + 1)).map rowT), fun σ2 H2 h => ⟨m, by omega, h⟩, fun x H2 hy => ?_⟩
      obtain ⟨rfl, rfl⟩ := hy
      show tSecs K _ (σ1.set 4 _) H2
      have hrow : (T[j]?.getD []).length ≤ B := by
        cases e : T[j]? with
        | none => simp
        | some r => exact hB r (List.mem_of_getElem? e)
      have hrx : ∀ r ∈ T[j]?.getD [], r.length ≤ 1000 := fun x hx => by
        cases e : T[j]? with
        | none => rw [e] at hx; simp at hx
        | some r => rw [e] at hx; exact hr r (List.mem_of_getElem? e) x hx
      have hgl := grown_len (k := (k : Int)) (s := s) hB (i := j)
      have hmul : B * (2 * j + 1) + 2 * B ≤ B * (2 * (i + 1) + 1) := by
        have : B * (2 * j + 1) + 2 * B = B * (2 * j + 3) := by
          rw [show 2 * j + 3 = 2 * j + 1 + 2 by omega, Nat.mul_add B (2 * j + 1) 2, Nat.mul_comm B 2]
        rw [this]
        exact Nat.mul_le_mul_left _ (by omega)
      refine secs_ok (e := k + 1 + j) (rows := T[j]?.getD []) (M1.put (.inl rfl)) ?_ (by rw [List.length_set]; omega) (by omega) (hT j (by omega)) (by omega) hrx (by rw [List.length_map]; omega) fun G' H' σ' M2 hl2 => ?_
      · rw [List.getElem?_set_self (by omega)]
        have : (k : Int) + 1 + (j : Int) = ((k + 1 + j : Nat) : Int) := by omega
        rw [this]
      · refine ⟨by omega, by rw [hl2, List.length_set]; exact hl, G', ?_⟩
        rw [grown_succ, addB_rows, List.map_append]
        exact M2
theorem Rl.hold2 {vs : List V} {ds : List D} (R : Rl K F G H σ (ρ0 n s)) (s2 : σ[2]? = some (some (.ref a))) (a0 : F.H0 a = none) (ag : G a = none) (ha : H a = some (.lst vs)) (r : RepA K G vs ds) :
    Rl K F G H σ [.val (.int n), .val (.bl s), .own (.lst ds), .none, .none, .none, .none, .none] where
  gh := R.gh
  g0 := R.g0
  gn := R.gn
  hk := R.hk
  hm := fun i b h => absurd h (R.noMp plain0 i b)
  hl := fun i b h => by
    obtain ⟨o, h2⟩ := R.hl i b h
    rcases plain0 i _ h2 with ⟨d, e⟩ | e <;> cases e
  sl := fun i t h => by
    match i, h with
    | 0, h => exact R.sl 0 t h
    | 1, h => exact R.sl 1 t h
    | 2, h => cases h; exact ⟨_, s2, a, rfl, a0, ag, vs, ha, r⟩
    | 3, h => exact R.sl 3 t h
    | 4, h => exact R.sl 4 t h
    | 5, h => exact R.sl 5 t h
    | 6, h => exact R.sl 6 t h
    | 7, h => exact R.sl 7 t h
  di := fun i j o o' b h1 h2 _ _ => by
    have one : ∀ (i : Nat) (o : O), ([.val (.int n), .val (.bl s), .own (.lst ds), .none, .none, .none, .none, .none] : En)[i]? = some (.own o) → i = 2 := fun i o h => by
      match i, h with
      | 0, h => cases h
      | 1, h => cases h
      | 2, h => rfl
      | 3, h => cases h
      | 4, h => cases h
      | 5, h => cases h
      | 6, h => cases h
      | 7, h => cases h
    rw [one i o h1, one j o' h2]
  mi := fun i j b h => absurd h (R.noMp plain0 i b)
theorem tab_r_len {n : Nat} {s : Bool} : ∀ i, ∀ row ∈ tab n s i, ∀ r ∈ row, r.length ≤ i
  | 0, row, h, r, hr => by
    simp [tab] at h
    subst h
    simp at hr
    subst hr
    simp
  | i + 1, row, h, r, hr => by
    rw [tab] at h
    rcases List.mem_cons.mp h with rfl | h
    · unfold grown at hr
      rcases List.mem_append.mp hr with h1 | h1
      · cases e : tab n s i with
        | nil => rw [e] at h1; simp at h1
        | cons x T =>
          rw [e] at h1
          have := tab_r_len i x (by rw [e]; simp) r h1
          omega
      · obtain ⟨j, _, h2⟩ := List.mem_flatMap.mp h1
        obtain ⟨b, _, h3⟩ := List.mem_flatMap.mp h2
        unfold rowsOf at h3
        obtain ⟨z, hz, rfl⟩ := List.mem_map.mp h3
        cases e : (tab n s i)[j]? with
        | none => rw [e] at hz; simp at hz
        | some x =>
          rw [e] at hz
          have := tab_r_len i x (List.mem_of_getElem? e) z hz
          simp
          omega
    · have := tab_r_len i row h r hr
      omega
theorem whole_at {N i j : Nat} {s : Bool} (hi : i ≤ N) (hj : j < i + 1) : (wholeD N s i)[N - i + j]? = some (rowsD ((tab N s i)[j]?.getD [])) := by
  unfold wholeD
  have hl := tab_len (n := N) (s := s) i
  rw [List.getElem?_append_right (by simp), List.length_replicate, show N - i + j - (N - i) = j by omega, List.getElem?_map, List.getElem?_eq_getElem (by omega)]
  rfl
theorem whole_len {N i : Nat} {s : Bool} (hi : i ≤ N) : (wholeD N s i).length = N + 1 := by
  unfold wholeD
  rw [List.length_append, List.length_replicate, List.length_map, tab_len]
  omega
theorem whole_succ {N i k : Nat} {s : Bool} (hk : k + i + 1 = N) : wholeD N s (i + 1) = (wholeD N s i).set k (rowsD (grown (k : Int) s (tab N s i) (i + 1))) := by
  unfold wholeD
  have h1 : N - i = k + 1 := by omega
  have h2 : N - (i + 1) = k := by omega
  have h3 : (N : Int) - 1 - i = (k : Int) := by omega
  rw [h1, h2, tab, h3, List.map_cons, List.replicate_succ', List.append_assoc, List.set_append_right _ _ (by simp), List.length_replicate, Nat.sub_self]
  rfl
def tAllDays (K : Fg) : TS := tFor (iRng3 (tCons (tOp (rI0 fun i j => V.int (i - j)) (tVar 0) (tC (V.int 1))) (tCons (tUn (rU fun i => V.int (-i)) (tC (V.int 1))) (tCons (tUn (rU fun i => V.int (-i)) (tC (V.int 1))) tNil)))) (gName 3)
  (tSeq (tAsg (tCB (fun xs H_1 Q => ∃ p ys, xs = [V.ref p] ∧ (SqL K H_1 p ys ∨ SqT K H_1 p ys) ∧ ∀ (l : Addr), H_1 l = none → Q (V.ref l) (upd H_1 l (HO.lst ys))) (tCons (tOp (rIx K) (tVar 2) (tOp (rAdd4 K) (tVar 3) (tC (V.int 1)))) tNil)) (gSub (tVar 2) (tVar 3) rSetL)) (tEnds K))
theorem all_ok {N : Nat} {D0 : Ends} {vs0 : List V} (hn : n = (N : Int)) (hN : N ≤ 7) (R : Rl K F G H σ (ρ0 n s)) (s2 : σ[2]? = some (some (.ref a))) (a0 : F.H0 a = none) (ag : G a = none) (ha : H a = some (.lst vs0)) (r : RepA K G vs0 (wholeD N s 0))
    (q : ∀ G' H' σ', Rl K F G' H' σ' [.val (.int n), .val (.bl s), .own (.lst (wholeD N s N)), .none, .none, .none, .none, .none] → D0.nx σ' H') : tAllDays K D0 σ H := by
  have hsz : σ[0]? = some (some (.int n)) := by
    obtain ⟨x, h1, v, rfl, h2⟩ := R.sl 0 (.val (.int n)) rfl
    cases h2
    exact h1
  refine ⟨_, hsz, n, 1, rfl, rfl, 1, rfl, 1, rfl, n - 1, -1, -1, _, rfl, RgC.neg (by omega) (by omega) (by omega) (by omega), ?_⟩
  have hcnt : (n - 1 - -1).toNat = N := by omega
  rw [hcnt]
  refine ⟨fun i m σ' H' => i + m = N ∧ ∃ G', Rl K F G' H' σ' (ρ0 n s) ∧ σ'[2]? = some (some (.ref a)) ∧ G' a = none ∧ ∃ vs, H' a = some (.lst vs) ∧ RepA K G' vs (wholeD N s i), ⟨N, by omega, G, R, s2, ag, vs0, ha, r⟩, ?_⟩
  rintro i m σ1 H1 ⟨him, G1, R1, g2, ag1, vs, ha1, r1⟩
  cases m with
  | zero =>
    have hi : i = N := by omega
    subst hi
    exact .inl ⟨Nat.le_refl _, q G1 H1 σ1 (R1.hold2 g2 a0 ag1 ha1 r1)⟩
  | succ m =>
    refine .inr ⟨show i < N by omega, fun σ2 H2 => (i + 1) + m = N ∧ ∃ G', Rl K F G' H2 σ2 (ρ0 n s) ∧ σ2[2]? = some (some (.ref a)) ∧ G' a = none ∧ ∃ vs, H2 a = some (.lst vs) ∧ RepA K G' vs (wholeD N s (i + 1)), fun σ2 H2 h => ⟨m, by omega, h⟩, fun x H2 hy => ?_⟩
    obtain ⟨rfl, rfl⟩ := hy
    obtain ⟨k, hk⟩ : ∃ k : Nat, k + i + 1 = N := ⟨N - 1 - i, by omega⟩
    have hkz : n - 1 + (i : Nat) * (-1 : Int) = (k : Int) := by omega
    rw [hkz]
    have hl8 : 8 ≤ σ1.length := by
      have := R1.lt (i := 7) (by simp [ρ0])
      omega
    have hvl : vs.length = N + 1 := by rw [r1.len, whole_len (by omega)]
    have R2 : Rl K F G1 H2 (σ1.set 3 (some (.int k))) (ρ0 n s) := R1.forget (i := 3) (x := some (.int k)) rfl
    have t2 : (σ1.set 3 (some (.int (k : Int))))[2]? = some (some (.ref a)) := by rw [List.getElem?_set_ne (by omega)]; exact g2
    have t3 : (σ1.set 3 (some (V.int (k : Int))))[3]? = some (some (.int k)) := by rw [List.getElem?_set_self (by omega)]
    show tSeq _ _ _ (σ1.set 3 (some (V.int (k : Int)))) H2
    generalize σ1.set 3 (some (V.int (k : Int))) = σ2 at *
    have hl2 : 8 ≤ σ2.length := by
      have := R2.lt (i := 7) (by simp [ρ0])
      omega
    -- the row behind
    have hrow0 := whole_at (N := N) (i := i) (j := 0) (s := s) (by omega) (by omega)
    rw [show N - i + 0 = k + 1 by omega] at hrow0
    obtain ⟨v1, hv1, hr1⟩ := r1.get hrow0
    have hhd : (tab N s i)[0]?.getD [] = (tab N s i).headD [] := by cases tab N s i <;> rfl
    rw [hhd] at hr1
    unfold rowsD at hr1
    cases hr1 with
    | @lst x us _ gx rx =>
    have hxH := R2.gh _ _ gx
    have hat : atI vs ((k : Int) + 1) = some (.ref x) := by
      have := atI_nat hv1
      rw [show ((k : Int) + 1) = ((k + 1 : Nat) : Int) by omega]
      exact this
    refine ⟨_, t2, _, t3, .inl ⟨(k : Int), 1, rfl, rfl, .inl ⟨a, vs, (k : Int) + 1, .ref x, rfl, rfl, .inl (.inl ha1), hat, x, us, rfl, .inl (.inl (.inl hxH)), fun l hl => ⟨_, t2, _, t3, a, vs, (k : Int), k, rfl, rfl, ?_, ?_, ?_⟩⟩⟩⟩
    · rw [upd_ne (fun z => by rw [z, hl] at ha1; cases ha1)]
      exact ha1
    · unfold ixN
      rw [if_pos (by omega), if_pos (by omega)]
      rfl
    · have la : l ≠ a := fun z => by rw [z, ha1] at hl; cases hl
      have lg : G1 l = none := R2.freshG hl
      have l0 : F.H0 l = none := R2.fresh hl
      have hset : Same G1 (upd (upd H2 l (.lst us)) a (.lst (vs.set k (.ref l)))) := fun b o h => by
        rw [upd_ne (fun z => by rw [z, ag1] at h; cases h), upd_ne (fun z => by rw [z, lg] at h; cases h)]
        exact R2.gh b o h
      have M : Mid K F n s k (wholeD N s i) a l G1 (upd (upd H2 l (.lst us)) a (.lst (vs.set k (.ref l)))) σ2 (((tab N s i).headD []).map rowT) := by
        refine ⟨R2.replain plain0 (Same.refl _) hset R2.gn fun b o h => ?_, t2, t3, a0, ag1, l0, lg, la, by rw [whole_len (by omega)]; omega, ⟨vs, upd_same, r1⟩, ⟨us, ?_, rx⟩⟩
        · rw [upd_ne (fun z => by rw [z, a0] at h; cases h), upd_ne (fun z => by rw [z, l0] at h; cases h)]
          exact R2.hkp plain0 b o h
        · rw [upd_ne la]
          exact upd_same
      have hbn : bnd i ≤ 135135 := Nat.le_trans (bnd_mono (show i ≤ 6 by omega)) (by decide)
      refine ends_ok (T := tab N s i) (N := N) (i := i) (B := bnd i) hn hk (by omega) hl2 (fun j hj => ?_) (tab_row_len i) (by omega) ?_ (fun r hr z hz => by have := tab_r_len i r hr z hz; omega) M fun G' H' σ' M' hl' => ?_
      · have := whole_at (N := N) (i := i) (j := j) (s := s) (by omega) hj
        rw [show N - i + j = k + 1 + j by omega] at this
        exact this
      · have h1 : bnd i * (2 * (i + 1) + 1) ≤ 135135 * 15 := Nat.mul_le_mul hbn (by omega)
        omega
      · obtain ⟨vs', va', vr'⟩ := M'.vs
        obtain ⟨ws', wa', wr'⟩ := M'.ws
        have sG : Same G' (upd G' l (.lst ws')) := smNew M'.pg
        refine ⟨by omega, upd G' l (.lst ws'), M'.R.replain plain0 sG (fun b o h => ?_) (fun b o h h0 => ?_) (M'.R.hkp plain0), M'.s2, ?_, _, va', ?_⟩
        · by_cases e : b = l
          · subst e
            rw [upd_same] at h
            cases h
            exact wa'
          · rw [upd_ne e] at h
            exact M'.R.gh b o h
        · by_cases e : b = l
          · subst e
            exact M'.p0
          · rw [upd_ne e] at h
            exact M'.R.gn b o h h0
        · rw [upd_ne (Ne.symm M'.ne)]
          exact M'.ag
        · rw [whole_succ hk]
          exact (vr'.mono sG).set k (.lst upd_same (wr'.mono sG))
end
section
variable {K : Fg}
open Classical in
/-- the loop, as the slots see it -/
noncomputable def sAllDays : En → SR := fun ρ => match ρ with
  | [.val (.int n), .val (.bl s), .own (.lst ds), .none, .none, .none, .none, .none] => if n = (n.toNat : Int) ∧ n.toNat ≤ 7 ∧ ds = wholeD n.toNat s 0 then .nx [.val (.int n), .val (.bl s), .own (.lst (wholeD n.toNat s n.toNat)), .none, .none, .none, .none, .none] else .stuck
  | _ => .stuck
theorem LS_allDays : LS K E0 (tAllDays K) sAllDays := by
  intro F G H σ ρ D0 R w
  unfold sAllDays at w
  split at w
  · rename_i n s ds
    split at w
    · rename_i hc
      obtain ⟨h1, h2, rfl⟩ := hc
      obtain ⟨a, e1, e2, e3, vs, e4, e5⟩ := R.own (i := 2) rfl
      have R0 := R.forget (i := 2) (x := some (.ref a)) rfl
      have eσ : σ.set 2 (some (.ref a)) = σ := by
        apply List.ext_getElem?
        intro j
        by_cases e : 2 = j
        · subst e
          rw [List.getElem?_set_self (R.lt (by simp)), e1]
        · rw [List.getElem?_set_ne e]
      rw [eσ] at R0
      exact all_ok h1 h2 R0 e1 e2 e3 e4 e5 fun G' H' σ' R' => w σ' G' H' R'
    · exact w.elim
  · exact w.elim
end
end DL
set_option Elab.async false
set_option linter.all false
set_option maxRecDepth 100000
set_option maxHeartbeats 4000000
namespace DD
open PySem PySem.Spec PyProof.Rows L2 ClX
def top (i : Nat) : Stmt := PySem.Challenge.pw_dimdays_k20_days_that_frames_let.main.body.getD i (.Pass ⟨0, 0, 0, 0⟩)
abbrev s_is_integer : Stmt := top 8
theorem sc_is_integer : FnScope ["value"] ["value"] (defScope s_is_integer) := ⟨rfl, rfl, rfl, by decide +kernel, rfl, by decide +kernel, by decide +kernel⟩
abbrev s_is_number : Stmt := top 9
theorem sc_is_number : FnScope ["value"] ["value"] (defScope s_is_number) := ⟨rfl, rfl, rfl, by decide +kernel, rfl, by decide +kernel, by decide +kernel⟩
abbrev s__is_meeting : Stmt := top 27
theorem sc__is_meeting : FnScope ["value", "begin", "end", "is_private"] ["value"] (defScope s__is_meeting) := ⟨rfl, rfl, rfl, by decide +kernel, rfl, by decide +kernel, by decide +kernel⟩
abbrev s_is_sequence : Stmt := top 11
theorem sc_is_sequence : FnScope ["value"] ["value"] (defScope s_is_sequence) := ⟨rfl, rfl, rfl, by decide +kernel, rfl, by decide +kernel, by decide +kernel⟩
abbrev s__are_meetings : Stmt := top 28
theorem sc__are_meetings : FnScope ["value", "length", "ahead", "meeting"] ["value", "length"] (defScope s__are_meetings) := ⟨rfl, rfl, rfl, by decide +kernel, rfl, by decide +kernel, by decide +kernel⟩
abbrev s_is_positive : Stmt := top 10
theorem sc_is_positive : FnScope ["value"] ["value"] (defScope s_is_positive) := ⟨rfl, rfl, rfl, by decide +kernel, rfl, by decide +kernel, by decide +kernel⟩
abbrev s_Day___init__ : Stmt := inClass (top 33) 0
theorem sc_Day___init__ : FnScope ["self", "length", "meetings"] ["self", "length", "meetings"] (defScope s_Day___init__) := ⟨rfl, rfl, rfl, by decide +kernel, rfl, by decide +kernel, by decide +kernel⟩
abbrev s__is_known : Stmt := top 16
theorem sc__is_known : FnScope ["value", "length", "tick", "is_taken"] ["value", "length"] (defScope s__is_known) := ⟨rfl, rfl, rfl, by decide +kernel, rfl, by decide +kernel, by decide +kernel⟩
abbrev s__are_known : Stmt := top 17
theorem sc__are_known : FnScope ["value", "length", "pair"] ["value", "length"] (defScope s__are_known) := ⟨rfl, rfl, rfl, by decide +kernel, rfl, by decide +kernel, by decide +kernel⟩
abbrev s__wrong_argument : Stmt := top 18
theorem sc__wrong_argument : FnScope ["length", "shortest", "most", "private", "known"] ["length", "shortest", "most", "private", "known"] (defScope s__wrong_argument) := ⟨rfl, rfl, rfl, by decide +kernel, rfl, by decide +kernel, by decide +kernel⟩
abbrev s_Frame___init__ : Stmt := inClass (top 25) 0
theorem sc_Frame___init__ : FnScope ["self", "length", "shortest", "most", "private", "known", "wrong"] ["self", "length", "shortest", "most", "private", "known"] (defScope s_Frame___init__) := ⟨rfl, rfl, rfl, by decide +kernel, rfl, by decide +kernel, by decide +kernel⟩
abbrev s_Day_taken : Stmt := inClass (top 33) 2
theorem sc_Day_taken : FnScope ["self", "meeting", "tick"] ["self"] (defScope s_Day_taken) := ⟨rfl, rfl, rfl, by decide +kernel, rfl, by decide +kernel, by decide +kernel⟩
abbrev s_Frame_lets : Stmt := inClass (top 25) 3
theorem sc_Frame_lets : FnScope ["self", "day", "taken", "begin", "end", "is_private", "tick", "is_taken"] ["self", "day"] (defScope s_Frame_lets) := ⟨rfl, rfl, rfl, by decide +kernel, rfl, by decide +kernel, by decide +kernel⟩
abbrev s__law_all_days : Stmt := top 41
theorem sc__law_all_days : FnScope ["_law_size", "_law_is_secret", "_law_whole", "_law_spot", "_law_end", "_law_secret", "_law_meetings", "_law_rest"] ["_law_size", "_law_is_secret"] (defScope s__law_all_days) := ⟨rfl, rfl, rfl, by decide +kernel, rfl, by decide +kernel, by decide +kernel⟩
abbrev s__law_choose : Stmt := top 36
theorem sc__law_choose : FnScope ["_law_box", "_law_many", "_law_raw", "_law_digit"] ["_law_box", "_law_many"] (defScope s__law_choose) := ⟨rfl, rfl, rfl, by decide +kernel, rfl, by decide +kernel, by decide +kernel⟩
abbrev s__law_one_of : Stmt := top 37
theorem sc__law_one_of : FnScope ["_law_box", "_law_some"] ["_law_box", "_law_some"] (defScope s__law_one_of) := ⟨rfl, rfl, rfl, by decide +kernel, rfl, by decide +kernel, by decide +kernel⟩
abbrev s__law_day : Stmt := top 38
theorem sc__law_day : FnScope ["_law_box", "_law_top", "_law_is_secret", "_law_turn", "_law_size", "_law_found", "_law_last", "_law_begin", "_law_end"] ["_law_box", "_law_top", "_law_is_secret"] (defScope s__law_day) := ⟨rfl, rfl, rfl, by decide +kernel, rfl, by decide +kernel, by decide +kernel⟩
abbrev s__law_frame : Stmt := top 39
theorem sc__law_frame : FnScope ["_law_box", "_law_top", "_law_is_secret", "_law_turn", "_law_many", "_law_size", "_law_marked"] ["_law_box", "_law_top", "_law_is_secret"] (defScope s__law_frame) := ⟨rfl, rfl, rfl, by decide +kernel, rfl, by decide +kernel, by decide +kernel⟩
abbrev s__law_is_let : Stmt := top 40
theorem sc__law_is_let : FnScope ["_law_frame_here", "_law_day_here", "_law_full", "_law_begin", "_law_end", "_law_secret", "_law_tick", "_law_is_full"] ["_law_frame_here", "_law_day_here"] (defScope s__law_is_let) := ⟨rfl, rfl, rfl, by decide +kernel, rfl, by decide +kernel, by decide +kernel⟩
abbrev s__law_made_frame : Stmt := top 42
theorem sc__law_made_frame : FnScope ["_law_told"] ["_law_told"] (defScope s__law_made_frame) := ⟨rfl, rfl, rfl, by decide +kernel, rfl, by decide +kernel, by decide +kernel⟩
abbrev s__law_seed : Stmt := top 35
theorem sc__law_seed : FnScope ["_law_script", "_law_k", "_law_cell"] ["_law_script", "_law_k"] (defScope s__law_seed) := ⟨rfl, rfl, rfl, by decide +kernel, rfl, by decide +kernel, by decide +kernel⟩
abbrev s_law : Stmt := top 43
theorem sc_law : FnScope ["_law_script", "_law_k", "_law_box", "_law_turn", "_law_told", "_law_frame_here", "_law_day_here", "_law_wide", "_law_pair"] ["_law_script"] (defScope s_law) := ⟨rfl, rfl, rfl, by decide +kernel, rfl, by decide +kernel, by decide +kernel⟩
structure Ad where
  f_is_integer : Addr
  f_is_number : Addr
  f__is_meeting : Addr
  f_is_sequence : Addr
  f__are_meetings : Addr
  f_is_positive : Addr
  f__is_known : Addr
  f__are_known : Addr
  f__wrong_argument : Addr
  f__law_all_days : Addr
  f__law_choose : Addr
  f__law_one_of : Addr
  f__law_day : Addr
  f__law_frame : Addr
  f__law_is_let : Addr
  f__law_made_frame : Addr
  f__law_seed : Addr
  f_law : Addr
  f_Day___init__ : Addr
  f_Day_taken : Addr
  q_Day_taken : Addr
  f_Frame___init__ : Addr
  f_Frame_lets : Addr
  C_Day : Addr
  C_Frame : Addr
  z_Day : Addr
  z_Frame : Addr
def dv_Frame (d : Ad) : List V := [.int 1, .non, .bl false, .ref d.z_Frame]
def dv_Day (d : Ad) : List V := [.ref d.z_Day]
structure Txt (K : PySem.W.Frag) (mg : Str → Option Value) (d : Ad) : Prop where
  m_is_integer : mg "is_integer" = some (.ref d.f_is_integer)
  k_is_integer : PySem.W.keepIn K (.ref d.f_is_integer) = true
  F_is_integer : ∃ fd, Fun K "is_integer" "is_integer" s_is_integer d.f_is_integer fd
  m_is_number : mg "is_number" = some (.ref d.f_is_number)
  k_is_number : PySem.W.keepIn K (.ref d.f_is_number) = true
  F_is_number : ∃ fd, Fun K "is_number" "is_number" s_is_number d.f_is_number fd
  m__is_meeting : mg "_is_meeting" = some (.ref d.f__is_meeting)
  k__is_meeting : PySem.W.keepIn K (.ref d.f__is_meeting) = true
  F__is_meeting : ∃ fd, Fun K "_is_meeting" "_is_meeting" s__is_meeting d.f__is_meeting fd
  m_is_sequence : mg "is_sequence" = some (.ref d.f_is_sequence)
  k_is_sequence : PySem.W.keepIn K (.ref d.f_is_sequence) = true
  F_is_sequence : ∃ fd, Fun K "is_sequence" "is_sequence" s_is_sequence d.f_is_sequence fd
  m__are_meetings : mg "_are_meetings" = some (.ref d.f__are_meetings)
  k__are_meetings : PySem.W.keepIn K (.ref d.f__are_meetings) = true
  F__are_meetings : ∃ fd, Fun K "_are_meetings" "_are_meetings" s__are_meetings d.f__are_meetings fd
  m_is_positive : mg "is_positive" = some (.ref d.f_is_positive)
  k_is_positive : PySem.W.keepIn K (.ref d.f_is_positive) = true
  F_is_positive : ∃ fd, Fun K "is_positive" "is_positive" s_is_positive d.f_is_positive fd
  m__is_known : mg "_is_known" = some (.ref d.f__is_known)
  k__is_known : PySem.W.keepIn K (.ref d.f__is_known) = true
  F__is_known : ∃ fd, Fun K "_is_known" "_is_known" s__is_known d.f__is_known fd
  m__are_known : mg "_are_known" = some (.ref d.f__are_known)
  k__are_known : PySem.W.keepIn K (.ref d.f__are_known) = true
  F__are_known : ∃ fd, Fun K "_are_known" "_are_known" s__are_known d.f__are_known fd
  m__wrong_argument : mg "_wrong_argument" = some (.ref d.f__wrong_argument)
  k__wrong_argument : PySem.W.keepIn K (.ref d.f__wrong_argument) = true
  F__wrong_argument : ∃ fd, Fun K "_wrong_argument" "_wrong_argument" s__wrong_argument d.f__wrong_argument fd
  m__law_all_days : mg "_law_all_days" = some (.ref d.f__law_all_days)
  k__law_all_days : PySem.W.keepIn K (.ref d.f__law_all_days) = true
  F__law_all_days : ∃ fd, Fun K "_law_all_days" "_law_all_days" s__law_all_days d.f__law_all_days fd
  m__law_choose : mg "_law_choose" = some (.ref d.f__law_choose)
  k__law_choose : PySem.W.keepIn K (.ref d.f__law_choose) = true
  F__law_choose : ∃ fd, Fun K "_law_choose" "_law_choose" s__law_choose d.f__law_choose fd
  m__law_one_of : mg "_law_one_of" = some (.ref d.f__law_one_of)
  k__law_one_of : PySem.W.keepIn K (.ref d.f__law_one_of) = true
  F__law_one_of : ∃ fd, Fun K "_law_one_of" "_law_one_of" s__law_one_of d.f__law_one_of fd
  m__law_day : mg "_law_day" = some (.ref d.f__law_day)
  k__law_day : PySem.W.keepIn K (.ref d.f__law_day) = true
  F__law_day : ∃ fd, Fun K "_law_day" "_law_day" s__law_day d.f__law_day fd
  m__law_frame : mg "_law_frame" = some (.ref d.f__law_frame)
  k__law_frame : PySem.W.keepIn K (.ref d.f__law_frame) = true
  F__law_frame : ∃ fd, Fun K "_law_frame" "_law_frame" s__law_frame d.f__law_frame fd
  m__law_is_let : mg "_law_is_let" = some (.ref d.f__law_is_let)
  k__law_is_let : PySem.W.keepIn K (.ref d.f__law_is_let) = true
  F__law_is_let : ∃ fd, Fun K "_law_is_let" "_law_is_let" s__law_is_let d.f__law_is_let fd
  m__law_made_frame : mg "_law_made_frame" = some (.ref d.f__law_made_frame)
  k__law_made_frame : PySem.W.keepIn K (.ref d.f__law_made_frame) = true
  F__law_made_frame : ∃ fd, Fun K "_law_made_frame" "_law_made_frame" s__law_made_frame d.f__law_made_frame fd
  m__law_seed : mg "_law_seed" = some (.ref d.f__law_seed)
  k__law_seed : PySem.W.keepIn K (.ref d.f__law_seed) = true
  F__law_seed : ∃ fd, Fun K "_law_seed" "_law_seed" s__law_seed d.f__law_seed fd
  m_law : mg "law" = some (.ref d.f_law)
  k_law : PySem.W.keepIn K (.ref d.f_law) = true
  F_law : ∃ fd, Fun K "law" "law" s_law d.f_law fd
  F_Day___init__ : ∃ fd, FunD K "__init__" "Day.__init__" (defArgs s_Day___init__) (defBody s_Day___init__) (defScope s_Day___init__) (dv_Day d) [] d.f_Day___init__ fd
  F_Day_taken : ∃ fd, Fun K "taken" "Day.taken" s_Day_taken d.f_Day_taken fd
  p_Day_taken : PropOf K d.C_Day "taken" d.q_Day_taken d.f_Day_taken
  F_Frame___init__ : ∃ fd, FunD K "__init__" "Frame.__init__" (defArgs s_Frame___init__) (defBody s_Frame___init__) (defScope s_Frame___init__) (dv_Frame d) [] d.f_Frame___init__ fd
  F_Frame_lets : ∃ fd, Fun K "lets" "Frame.lets" s_Frame_lets d.f_Frame_lets fd
  me_Frame_lets : Meth K d.C_Frame "lets" d.f_Frame_lets
  m_Day : mg "Day" = some (.ref d.C_Day)
  cl_Day : Cls K d.C_Day
  mk_Day : Mk K d.C_Day d.f_Day___init__
  na_Day_length : NoAttr K d.C_Day "length"
  na_Day_meetings : NoAttr K d.C_Day "meetings"
  na_Day_private : NoAttr K d.C_Day "private"
  ks_Day : PySem.W.kitOne K (.type "str") (.ref d.C_Day) = some false
  su_Day : PySem.W.subIn K (.type "str") (.ref d.C_Day) = some false
  sb_Day_int : PySem.W.subIn K (.ref d.C_Day) (.type "int") = some false
  sb_Day_bool : PySem.W.subIn K (.ref d.C_Day) (.type "bool") = some false
  sb_Day_str : PySem.W.subIn K (.ref d.C_Day) (.type "str") = some false
  sb_Day_tuple : PySem.W.subIn K (.ref d.C_Day) (.type "tuple") = some false
  sb_Day_list : PySem.W.subIn K (.ref d.C_Day) (.type "list") = some false
  o_Day : PySem.W.mroIn K d.C_Day (.type "object") = some true
  ic_Day : PySem.W.findIn K (.ref d.C_Day) "__class__" = some (some (.builtin "object.__class__"))
  m_Frame : mg "Frame" = some (.ref d.C_Frame)
  cl_Frame : Cls K d.C_Frame
  mk_Frame : Mk K d.C_Frame d.f_Frame___init__
  na_Frame_length : NoAttr K d.C_Frame "length"
  na_Frame_shortest : NoAttr K d.C_Frame "shortest"
  na_Frame_most : NoAttr K d.C_Frame "most"
  na_Frame_private : NoAttr K d.C_Frame "private"
  na_Frame_known : NoAttr K d.C_Frame "known"
  ks_Frame : PySem.W.kitOne K (.type "str") (.ref d.C_Frame) = some false
  su_Frame : PySem.W.subIn K (.type "str") (.ref d.C_Frame) = some false
  sb_Frame_int : PySem.W.subIn K (.ref d.C_Frame) (.type "int") = some false
  sb_Frame_bool : PySem.W.subIn K (.ref d.C_Frame) (.type "bool") = some false
  sb_Frame_str : PySem.W.subIn K (.ref d.C_Frame) (.type "str") = some false
  sb_Frame_tuple : PySem.W.subIn K (.ref d.C_Frame) (.type "tuple") = some false
  sb_Frame_list : PySem.W.subIn K (.ref d.C_Frame) (.type "list") = some false
  o_Frame : PySem.W.mroIn K d.C_Frame (.type "object") = some true
  ic_Frame : PySem.W.findIn K (.ref d.C_Frame) "__class__" = some (some (.builtin "object.__class__"))
  oc1 : PySem.W.specialIn K (.builtin "object.__class__") "__get__" = some (some (.builtin "getset_descriptor.__get__"))
  oc2 : PySem.W.takesIn K (.builtin "object.__class__") = some true
  w_zDay : ∀ H, SqT K H d.z_Day []
  w_zFrame : ∀ H, SqT K H d.z_Frame []
  b_abs : mg "abs" = none
  b_all : mg "all" = none
  b_bool : mg "bool" = none
  b_int : mg "int" = none
  b_isinstance : mg "isinstance" = none
  b_len : mg "len" = none
  b_list : mg "list" = none
  b_max : mg "max" = none
  b_min : mg "min" = none
  b_range : mg "range" = none
  b_repr : mg "repr" = none
  b_tuple : mg "tuple" = none
section
variable {P : Program} {w : World} {K : PySem.W.Frag} {mg : Str → Option Value} {base : Heap}
theorem vals_abs : ∀ {us : List Value} {vs : List V}, us.mapM absV = some vs → Vals vs us
  | [], vs, h => by
    simp at h
    subst h
    exact .nil
  | u :: us, vs, h => by
    rw [List.mapM_cons] at h
    cases e : absV u with
    | none => rw [e] at h; simp at h
    | some v =>
      cases e2 : us.mapM absV with
      | none => rw [e, e2] at h; simp at h
      | some ws =>
        rw [e, e2] at h
        simp at h
        subst h
        refine .cons ?_ (vals_abs e2)
        cases u <;> simp [absV] at e <;> subst e <;> first | rfl | exact ⟨_, rfl⟩
theorem sqt_mk {H : Hp} {c : Addr} {td : Option Addr} {it : Array Value} {n : Nat} {ts : Array (Option Value)} {vs : List V} (l : K.lookup c = some ⟨.type "tuple", td, .seq it n, ts⟩) (lv : it.toList.mapM absV = some vs) (hz : vs.length ≤ sizeLine) : SqT K H c vs := by
  have r := vals_abs lv
  refine .inr ⟨_, it, n, l, rfl, rfl, ?_, r⟩
  rw [← Array.length_toList, ← r.length]
  exact hz
theorem fund_mk {x qual : Str} {st : Stmt} {f T : Addr} {oc tc : Value} {od an td : Option Addr} {osl ts : Array (Option Value)} {it : Array Value} {tn : Nat} {kV doc pm cdv ct : Value} {dvs : List V}
    (l : K.lookup f = some ⟨oc, od, .func (PySem.W.fnOf x qual (defArgs st) (defBody st) (defScope st) (.ref T) kV doc pm an cdv ct), osl⟩) (lt : K.lookup T = some ⟨tc, td, .seq it tn, ts⟩) (lv : it.toList.mapM absV = some dvs) (hn : dvs ≠ [])
    (c : PySem.W.codeIn K cdv qual = true) (k : PySem.W.keepIn K (.ref f) = true) : FunD K x qual (defArgs st) (defBody st) (defScope st) dvs [] f (PySem.W.fnOf x qual (defArgs st) (defBody st) (defScope st) (.ref T) kV doc pm an cdv ct) :=
  ⟨⟨oc, od, .ref T, kV, doc, pm, an, cdv, ct, osl, rfl, l, c, .inr ⟨hn, T, _, it.toList, tn, rfl, lt, by simp, vals_abs lv⟩, .inl rfl⟩, k⟩
end
abbrev cl (d : Ad) : DL.Cl := ⟨d.C_Day, d.C_Day, d.C_Frame, 0, 0, 0, 0, 0, 0, 0, 0, 0, 0, d.C_Day, d.C_Day, d.C_Day, d.C_Day, d.C_Day⟩
section
variable {K : PySem.W.Frag} {mg : Str → Option Value} {d : Ad}
open DL
theorem fa_length (T : Txt K mg d) : ∀ C ∈ [(cl d).Day, (cl d).Frame], Cls K C ∧ NoAttr K C "length" := by
  intro C h
  simp only [List.mem_cons, List.not_mem_nil, or_false] at h
  rcases h with rfl | rfl
  · exact ⟨T.cl_Day, T.na_Day_length⟩
  · exact ⟨T.cl_Frame, T.na_Frame_length⟩
theorem fa_meetings (T : Txt K mg d) : ∀ C ∈ [(cl d).Day], Cls K C ∧ NoAttr K C "meetings" := by
  intro C h
  simp only [List.mem_cons, List.not_mem_nil, or_false] at h
  rcases h with rfl
  · exact ⟨T.cl_Day, T.na_Day_meetings⟩
theorem fa_shortest (T : Txt K mg d) : ∀ C ∈ [(cl d).Frame], Cls K C ∧ NoAttr K C "shortest" := by
  intro C h
  simp only [List.mem_cons, List.not_mem_nil, or_false] at h
  rcases h with rfl
  · exact ⟨T.cl_Frame, T.na_Frame_shortest⟩
theorem fa_most (T : Txt K mg d) : ∀ C ∈ [(cl d).Frame], Cls K C ∧ NoAttr K C "most" := by
  intro C h
  simp only [List.mem_cons, List.not_mem_nil, or_false] at h
  rcases h with rfl
  · exact ⟨T.cl_Frame, T.na_Frame_most⟩
theorem fa_private (T : Txt K mg d) : ∀ C ∈ [(cl d).Rule, (cl d).Frame], Cls K C ∧ NoAttr K C "private" := by
  intro C h
  simp only [List.mem_cons, List.not_mem_nil, or_false] at h
  rcases h with rfl | rfl
  · exact ⟨T.cl_Day, T.na_Day_private⟩
  · exact ⟨T.cl_Frame, T.na_Frame_private⟩
theorem fa_known (T : Txt K mg d) : ∀ C ∈ [(cl d).Frame], Cls K C ∧ NoAttr K C "known" := by
  intro C h
  simp only [List.mem_cons, List.not_mem_nil, or_false] at h
  rcases h with rfl
  · exact ⟨T.cl_Frame, T.na_Frame_known⟩
theorem fs_Day_length (T : Txt K mg d) : ∀ C ∈ [(cl d).Day], Cls K C ∧ NoAttr K C "length" := by
  intro C h
  simp only [List.mem_cons, List.not_mem_nil, or_false] at h
  subst h
  exact ⟨T.cl_Day, T.na_Day_length⟩
theorem fs_Day_meetings (T : Txt K mg d) : ∀ C ∈ [(cl d).Day], Cls K C ∧ NoAttr K C "meetings" := by
  intro C h
  simp only [List.mem_cons, List.not_mem_nil, or_false] at h
  subst h
  exact ⟨T.cl_Day, T.na_Day_meetings⟩
theorem fs_Frame_length (T : Txt K mg d) : ∀ C ∈ [(cl d).Frame], Cls K C ∧ NoAttr K C "length" := by
  intro C h
  simp only [List.mem_cons, List.not_mem_nil, or_false] at h
  subst h
  exact ⟨T.cl_Frame, T.na_Frame_length⟩
theorem fs_Frame_shortest (T : Txt K mg d) : ∀ C ∈ [(cl d).Frame], Cls K C ∧ NoAttr K C "shortest" := by
  intro C h
  simp only [List.mem_cons, List.not_mem_nil, or_false] at h
  subst h
  exact ⟨T.cl_Frame, T.na_Frame_shortest⟩
theorem fs_Frame_most (T : Txt K mg d) : ∀ C ∈ [(cl d).Frame], Cls K C ∧ NoAttr K C "most" := by
  intro C h
  simp only [List.mem_cons, List.not_mem_nil, or_false] at h
  subst h
  exact ⟨T.cl_Frame, T.na_Frame_most⟩
theorem fs_Frame_private (T : Txt K mg d) : ∀ C ∈ [(cl d).Frame], Cls K C ∧ NoAttr K C "private" := by
  intro C h
  simp only [List.mem_cons, List.not_mem_nil, or_false] at h
  subst h
  exact ⟨T.cl_Frame, T.na_Frame_private⟩
theorem fs_Frame_known (T : Txt K mg d) : ∀ C ∈ [(cl d).Frame], Cls K C ∧ NoAttr K C "known" := by
  intro C h
  simp only [List.mem_cons, List.not_mem_nil, or_false] at h
  subst h
  exact ⟨T.cl_Frame, T.na_Frame_known⟩
theorem tyc (T : Txt K mg d) : ∀ C ∈ [(cl d).Day, (cl d).Rule, (cl d).Frame], TyC K C := by
  intro C h
  simp only [List.mem_cons, List.not_mem_nil, or_false] at h
  rcases h with rfl | rfl | rfl
  · exact ⟨T.cl_Day, T.ic_Day, T.oc1, T.oc2, T.o_Day⟩
  · exact ⟨T.cl_Day, T.ic_Day, T.oc1, T.oc2, T.o_Day⟩
  · exact ⟨T.cl_Frame, T.ic_Frame, T.oc1, T.oc2, T.o_Frame⟩
theorem kit_ok (T : Txt K mg d) : KitOk K (kitD [(cl d).Day, (cl d).Rule, (cl d).Frame]) := kitD_ok (fun C h => by
  simp only [List.mem_cons, List.not_mem_nil, or_false] at h
  rcases h with rfl | rfl | rfl
  · exact T.ks_Day
  · exact T.ks_Day
  · exact T.ks_Frame) (fun C h b hb => by
  simp only [List.mem_cons, List.not_mem_nil, or_false] at h
  simp only [blts, List.mem_cons, List.not_mem_nil, or_false] at hb
  rcases h with rfl | rfl | rfl
  · rcases hb with rfl | rfl | rfl | rfl | rfl
    · exact T.sb_Day_int
    · exact T.sb_Day_bool
    · exact T.sb_Day_str
    · exact T.sb_Day_tuple
    · exact T.sb_Day_list
  · rcases hb with rfl | rfl | rfl | rfl | rfl
    · exact T.sb_Day_int
    · exact T.sb_Day_bool
    · exact T.sb_Day_str
    · exact T.sb_Day_tuple
    · exact T.sb_Day_list
  · rcases hb with rfl | rfl | rfl | rfl | rfl
    · exact T.sb_Frame_int
    · exact T.sb_Frame_bool
    · exact T.sb_Frame_str
    · exact T.sb_Frame_tuple
    · exact T.sb_Frame_list)
end
end DD
set_option Elab.async false
set_option linter.all false
set_option maxRecDepth 100000
set_option maxHeartbeats 4000000
namespace DL
open PySem PySem.Spec PyProof.Rows L2 DD
noncomputable def D_is_integer (c : Cl) : En → SR :=
  (sRet (dAnd (dIsi (kitD [c.Day, c.Rule, c.Frame]) [c.Day, c.Rule, c.Frame] [(.type "int")] (dVar 0)) (dNot (dIsi (kitD [c.Day, c.Rule, c.Frame]) [c.Day, c.Rule, c.Frame] [(.type "bool")] (dVar 0)))))
noncomputable def D_is_number (c : Cl) : En → SR :=
  (sRet (dAnd (dCall 1 1 (D_is_integer c) (aCons (dVar 0) aNil)) (dBin opGe (dVar 0) (dC (.int 0)))))
noncomputable def D_is_positive (c : Cl) : En → SR :=
  (sRet (dAnd (dCall 1 1 (D_is_integer c) (aCons (dVar 0) aNil)) (dBin opGe (dVar 0) (dC (.int 1)))))
noncomputable def D_is_sequence (c : Cl) : En → SR :=
  (sRet (dIsi (kitD [c.Day, c.Rule, c.Frame]) [c.Day, c.Rule, c.Frame] [(.type "list"), (.type "tuple")] (dVar 0)))
noncomputable def D__is_meeting (c : Cl) : En → SR :=
  (sSeq (sIf (tor (tnot (dTest (dIsi (kitD [c.Day, c.Rule, c.Frame]) [c.Day, c.Rule, c.Frame] [(.type "tuple")] (dVar 0)))) (dTest (dBin opNe (dCB fLen (aCons (dVar 0) aNil)) (dC (.int 3))))) (sRet (dC (.bl false))) sNext) (sSeq (sTgt (uTup 3 (usCons (uName 1) (usCons (uName 2) (usCons (uName 3) usNil)))) (dVar 0)) (sRet (dAnd (dCall 1 1 (D_is_number c) (aCons (dVar 1) aNil)) (dAnd (dCall 1 1 (D_is_number c) (aCons (dVar 2) aNil)) (dAnd (dIsi (kitD [c.Day, c.Rule, c.Frame]) [c.Day, c.Rule, c.Frame] [(.type "bool")] (dVar 3)) (dBin opLt (dVar 1) (dVar 2))))))))
noncomputable def D__are_meetings_b1 (c : Cl) : En → SR :=
  (sSeq (sIf (tor (tnot (dTest (dCall 1 4 (D__is_meeting c) (aCons (dVar 3) aNil)))) (tor (dTest (dBin opLt (dBin opIx (dVar 3) (dC (.int 0))) (dVar 2))) (dTest (dBin opGt (dBin opIx (dVar 3) (dC (.int 1))) (dVar 1))))) (sRet (dC (.bl false))) sNext) (sSet 2 (dBin opIx (dVar 3) (dC (.int 1)))))
noncomputable def D__are_meetings (c : Cl) : En → SR :=
  (sSeq (sIf (tnot (dTest (dCall 1 1 (D_is_sequence c) (aCons (dVar 0) aNil)))) (sRet (dC (.bl false))) sNext) (sSeq (sSet 2 (dC (.int 0))) (sSeq (sForS (dVar 0) (uName 3) (D__are_meetings_b1 c)) (sRet (dC (.bl true))))))
noncomputable def D_Day___init__ (c : Cl) : En → SR :=
  (sSeq (sIf (tnot (dTest (dCall 1 1 (D_is_positive c) (aCons (dVar 1) aNil)))) sDead sNext) (sSeq (sIf (tnot (dTest (dCall 2 4 (D__are_meetings c) (aCons (dVar 2) (aCons (dVar 1) aNil))))) sDead sNext) (sSeq (sFldD [c.Day] 0 "length" (dVar 1)) (sFldD [c.Day] 0 "meetings" (dCB fTuple (aCons (dVar 2) aNil))))))
noncomputable def D__law_seed (c : Cl) : En → SR :=
  (sSeq (sSet 2 (dBin opAdd (dBin opMul (dC (.int 8831)) (dVar 1)) (dC (.int 101)))) (sSeq (sIf (dTest (dBin opLt (dVar 1) (dCB fLen (aCons (dVar 0) aNil)))) (sSet 2 (dCB fAbs (aCons (dBin opIx (dVar 0) (dVar 1)) aNil))) (sIf (dTest (dBin opGt (dCB fLen (aCons (dVar 0) aNil)) (dC (.int 0)))) (sSet 2 (dBin opAdd (dVar 2) (dBin opMul (dBin opMod (dCB fInt (aCons (dCB fAbs (aCons (dBin opIx (dVar 0) (dBin opMod (dCB fInt (aCons (dVar 1) aNil)) (dCB fLen (aCons (dVar 0) aNil)))) aNil)) aNil)) (dC (.int 2147483629))) (dC (.int 40093))))) sNext)) (sRet (dLst (aCons (dIfE (dTest (dBin opGe (dVar 2) (dBin opPow (dC (.int 10)) (dC (.int 18))))) (dVar 2) (dC (.int 0))) (aCons (dBin opAdd (dBin opMod (dCB fInt (aCons (dBin opAdd (dBin opMul (dBin opMod (dCB fInt (aCons (dVar 2) aNil)) (dC (.int 2147483629))) (dC (.int 48271))) (dBin opMul (dC (.int 37021)) (dVar 1))) aNil)) (dC (.int 2147483629))) (dC (.int 1))) aNil))))))
noncomputable def D__law_choose (c : Cl) : En → SR :=
  (sSeq (sIf (dTest (dBin opGt (dBin opIx (dVar 0) (dC (.int 0))) (dC (.int 0)))) (sSeq (sSet 3 (dBin opMod (dCB fInt (aCons (dBin opIx (dVar 0) (dC (.int 0))) aNil)) (dVar 1))) (sSeq (sPut 0 (dBin opFdiv (dBin opIx (dVar 0) (dC (.int 0))) (dVar 1)) (dC (.int 0))) (sRet (dVar 3)))) sNext) (sSeq (sSet 2 (dBin opMod (dCB fInt (aCons (dBin opAdd (dBin opMul (dBin opIx (dVar 0) (dC (.int 1))) (dC (.int 40014))) (dC (.int 71))) aNil)) (dC (.int 2147483563)))) (sSeq (sPut 0 (dBin opAdd (dBin opMod (dCB fInt (aCons (dBin opAdd (dBin opMul (dVar 2) (dC (.int 40692))) (dC (.int 4603))) aNil)) (dC (.int 2147483629))) (dC (.int 1))) (dC (.int 1))) (sRet (dBin opMod (dCB fInt (aCons (dBin opFdiv (dBin opAdd (dBin opMul (dVar 2) (dC (.int 2147483647))) (dBin opIx (dVar 0) (dC (.int 1)))) (dC (.int 8191))) aNil)) (dVar 1))))))
noncomputable def D__law_one_of (c : Cl) : En → SR :=
  (sRet (dBin opIx (dVar 1) (dLend 2 4 (D__law_choose c) 0 (aCons (dCB fLen (aCons (dVar 1) aNil)) aNil))))
noncomputable def D__law_day_b1 (c : Cl) : En → SR :=
  (sSeq (sSet 7 (dBin opAdd (dVar 6) (dLend 2 2 (D__law_one_of c) 0 (aCons (dLst (aCons (dC (.int 0)) (aCons (dC (.int 0)) (aCons (dC (.int 1)) (aCons (dC (.int 1)) (aCons (dC (.int 2)) (aCons (dC (.int 3)) (aCons (dC (.int 5)) aNil)))))))) aNil)))) (sSeq (sSet 8 (dBin opAdd (dVar 7) (dLend 2 2 (D__law_one_of c) 0 (aCons (dLst (aCons (dC (.int 1)) (aCons (dC (.int 1)) (aCons (dC (.int 2)) (aCons (dC (.int 3)) (aCons (dC (.int 4)) (aCons (dC (.int 9)) aNil))))))) aNil)))) (sIf (dTest (dBin opLe (dVar 8) (dVar 4))) (sSeq (sDrop (eMut 5 mAppend (aCons (dTup (aCons (dVar 7) (aCons (dVar 8) (aCons (dAnd (dVar 2) (dBin opEq (dLend 2 4 (D__law_choose c) 0 (aCons (dC (.int 3)) aNil)) (dC (.int 0)))) aNil)))) aNil))) (sSet 6 (dVar 8))) sNext)))
noncomputable def D__law_day (c : Cl) : En → SR :=
  (sSeq (sMulti [4, 5, 6] (nCons (dBin opAdd (dC (.int 1)) (dLend 2 4 (D__law_choose c) 0 (aCons (dVar 1) aNil))) (nCons (dLst aNil) (nCons (dC (.int 0)) aNil)))) (sSeq (sFor (dRng1 (dC (.int 8))) (uName 3) (D__law_day_b1 c)) (sRet (dTup (aCons (dVar 4) (aCons (dVar 5) aNil))))))
noncomputable def D_Day_taken_2 (c : Cl) : En → SR :=
  (sRet (dCB fTuple (aCons (dLc2 (dSeqI (dFld [c.Day] "meetings" (dVar 0))) [1, 2] [2] (uName 1) tdYes (dRng2 (dBin opIx (dVar 1) (dC (.int 0))) (dBin opIx (dVar 1) (dC (.int 1)))) (uName 2) tdYes (dVar 2)) aNil)))
noncomputable def D__is_known (c : Cl) : En → SR :=
  (sSeq (sIf (tor (tnot (dTest (dIsi (kitD [c.Day, c.Rule, c.Frame]) [c.Day, c.Rule, c.Frame] [(.type "tuple")] (dVar 0)))) (dTest (dBin opNe (dCB fLen (aCons (dVar 0) aNil)) (dC (.int 2))))) (sRet (dC (.bl false))) sNext) (sSeq (sTgt (uTup 2 (usCons (uName 2) (usCons (uName 3) usNil))) (dVar 0)) (sRet (dAnd (dCall 1 1 (D_is_number c) (aCons (dVar 2) aNil)) (dAnd (dBin opLt (dVar 2) (dVar 1)) (dIsi (kitD [c.Day, c.Rule, c.Frame]) [c.Day, c.Rule, c.Frame] [(.type "bool")] (dVar 3)))))))
noncomputable def D__are_known (c : Cl) : En → SR :=
  (sRet (dAnd (dCall 1 1 (D_is_sequence c) (aCons (dVar 0) aNil)) (dCB fAll (aCons (dLcS (dVar 0) [2] (uName 2) tdYes (dCall 2 4 (D__is_known c) (aCons (dVar 2) (aCons (dVar 1) aNil)))) aNil))))
noncomputable def D_wrong_argument_frames (c : Cl) : En → SR :=
  (sSeq (sIf (tnot (dTest (dCall 1 1 (D_is_positive c) (aCons (dVar 0) aNil)))) (sRet (dC (.str "length"))) sNext) (sSeq (sIf (tnot (dTest (dCall 1 1 (D_is_positive c) (aCons (dVar 1) aNil)))) (sRet (dC (.str "shortest"))) sNext) (sSeq (sIf (tnd (dTest (dNotN (dVar 2))) (tnot (dTest (dCall 1 1 (D_is_number c) (aCons (dVar 2) aNil))))) (sRet (dC (.str "most"))) sNext) (sSeq (sIf (tnot (dTest (dIsi (kitD [c.Day, c.Rule, c.Frame]) [c.Day, c.Rule, c.Frame] [(.type "bool")] (dVar 3)))) (sRet (dC (.str "private"))) sNext) (sSeq (sIf (tnot (dTest (dCall 2 3 (D__are_known c) (aCons (dVar 4) (aCons (dVar 0) aNil))))) (sRet (dC (.str "known"))) sNext) (sRet (dC .non)))))))
noncomputable def D_Frame___init__ (c : Cl) : En → SR :=
  (sSeq (sSet 6 (dCall 5 5 (D_wrong_argument_frames c) (aCons (dVar 1) (aCons (dVar 2) (aCons (dVar 3) (aCons (dVar 4) (aCons (dVar 5) aNil))))))) (sSeq (sIf (dTest (dNotN (dVar 6))) sDead sNext) (sSeq (sFldD [c.Frame] 0 "length" (dVar 1)) (sSeq (sFldD [c.Frame] 0 "shortest" (dVar 2)) (sSeq (sFldD [c.Frame] 0 "most" (dVar 3)) (sSeq (sFldD [c.Frame] 0 "private" (dVar 4)) (sFldD [c.Frame] 0 "known" (dCB fTuple (aCons (dVar 5) aNil)))))))))
noncomputable def D_Frame_lets_b1 (c : Cl) : En → SR :=
  (sIf (tor (dTest (dBin opLt (dBin opSub (dVar 4) (dVar 3)) (dFld [c.Frame] "shortest" (dVar 0)))) (tnd (dTest (dVar 5)) (tnot (dTest (dFld [c.Rule, c.Frame] "private" (dVar 0)))))) (sRet (dC (.bl false))) sNext)
noncomputable def D_Frame_lets (c : Cl) : En → SR :=
  (sSeq (sIf (tor (dTest (dBin opNe (dFld [c.Day, c.Frame] "length" (dVar 1)) (dFld [c.Day, c.Frame] "length" (dVar 0)))) (tnd (dTest (dNotN (dFld [c.Frame] "most" (dVar 0)))) (dTest (dBin opGt (dCB fLen (aCons (dFld [c.Day] "meetings" (dVar 1)) aNil)) (dFld [c.Frame] "most" (dVar 0)))))) (sRet (dC (.bl false))) sNext) (sSeq (sForS (dFld [c.Day] "meetings" (dVar 1)) (uTup 3 (usCons (uName 3) (usCons (uName 4) (usCons (uName 5) usNil)))) (D_Frame_lets_b1 c)) (sSeq (sSet 2 (dProp c.Day 3 (D_Day_taken_2 c) (dVar 1))) (sRet (dCB fAll (aCons (dLcS (dFld [c.Frame] "known" (dVar 0)) [6, 7] (uTup 2 (usCons (uName 6) (usCons (uName 7) usNil))) tdYes (dBin opEq (dBin opIn (dVar 6) (dVar 2)) (dVar 7))) aNil))))))
noncomputable def D__law_frame_b1 (c : Cl) : En → SR :=
  (sDrop (eMut 6 mAppend (aCons (dTup (aCons (dLend 2 4 (D__law_choose c) 0 (aCons (dVar 5) aNil)) (aCons (dBin opEq (dLend 2 4 (D__law_choose c) 0 (aCons (dC (.int 2)) aNil)) (dC (.int 0))) aNil))) aNil)))
noncomputable def D__law_frame (c : Cl) : En → SR :=
  (sSeq (sMulti [5, 6] (nCons (dBin opAdd (dC (.int 1)) (dLend 2 4 (D__law_choose c) 0 (aCons (dVar 1) aNil))) (nCons (dLst aNil) aNil))) (sSeq (sFor (dRng1 (dLend 2 2 (D__law_one_of c) 0 (aCons (dLst (aCons (dC (.int 0)) (aCons (dC (.int 0)) (aCons (dC (.int 0)) (aCons (dC (.int 1)) (aCons (dC (.int 2)) aNil)))))) aNil))) (uName 3) (D__law_frame_b1 c)) (sSeq (sSet 4 (dLend 2 2 (D__law_one_of c) 0 (aCons (dLst (aCons (dC .non) (aCons (dC .non) (aCons (dLend 2 4 (D__law_choose c) 0 (aCons (dC (.int 4)) aNil)) aNil)))) aNil))) (sRet (dTup (aCons (dVar 5) (aCons (dLend 2 2 (D__law_one_of c) 0 (aCons (dLst (aCons (dC (.int 1)) (aCons (dC (.int 1)) (aCons (dC (.int 2)) (aCons (dC (.int 3)) aNil))))) aNil)) (aCons (dVar 4) (aCons (dAnd (dVar 2) (dBin opEq (dLend 2 4 (D__law_choose c) 0 (aCons (dC (.int 3)) aNil)) (dC (.int 0)))) (aCons (dVar 6) aNil))))))))))
end DL
set_option Elab.async false
set_option linter.all false
set_option maxRecDepth 100000
set_option maxHeartbeats 4000000
namespace DL
open PySem PySem.Spec PyProof.Rows L2 DD
noncomputable def D__law_frame_of (c : Cl) : En → SR :=
  (sRet (dMake c.Frame 6 7 (fun ρ => D_Frame___init__ c (fillD 6 [] ρ)) (aCons (dBin opIx (dVar 0) (dC (.int 0))) (aCons (dBin opIx (dVar 0) (dC (.int 1))) (aCons (dBin opIx (dVar 0) (dC (.int 2))) (aCons (dBin opIx (dVar 0) (dC (.int 3))) (aCons (dBin opIx (dVar 0) (dC (.int 4))) aNil)))))))
noncomputable def D__law_is_let_b1 (c : Cl) : En → SR :=
  (sSeq (sDrop (eMut 2 mExtend (aCons (dLstRg (g2 (dVar 3) (dVar 4))) aNil))) (sIf (tor (dTest (dBin opLt (dBin opSub (dVar 4) (dVar 3)) (dBin opIx (dVar 0) (dC (.int 1))))) (tnd (dTest (dVar 5)) (tnot (dTest (dBin opIx (dVar 0) (dC (.int 3))))))) (sRet (dC (.bl false))) sNext))
noncomputable def D__law_is_let (c : Cl) : En → SR :=
  (sSeq (sSet 2 (dLst aNil)) (sSeq (sForS (dBin opIx (dVar 1) (dC (.int 1))) (uTup 3 (usCons (uName 3) (usCons (uName 4) (usCons (uName 5) usNil)))) (D__law_is_let_b1 c)) (sSeq (sIf (tor (dTest (dBin opNe (dBin opIx (dVar 1) (dC (.int 0))) (dBin opIx (dVar 0) (dC (.int 0))))) (tnd (dTest (dNotN (dBin opIx (dVar 0) (dC (.int 2))))) (dTest (dBin opGt (dCB fLen (aCons (dBin opIx (dVar 1) (dC (.int 1))) aNil)) (dBin opIx (dVar 0) (dC (.int 2))))))) (sRet (dC (.bl false))) sNext) (sRet (dBin opEq (dLcS (dBin opIx (dVar 0) (dC (.int 4))) [6, 7] (uTup 2 (usCons (uName 6) (usCons (uName 7) usNil))) (dTest (dBin opNe (dBin opIn (dVar 6) (dVar 2)) (dVar 7))) (dVar 6)) (dLst aNil))))))
end DL
set_option Elab.async false
set_option linter.all false
set_option maxRecDepth 100000
set_option maxHeartbeats 4000000
namespace DL
open PySem PySem.Spec PyProof.Rows L2 DD
noncomputable def D__law_all_days (c : Cl) : En → SR :=
  (sSeq (sSet 2 (dBin opAdd (dLc (dRng1 (dVar 0)) [3] (uName 3) tdYes (dLst aNil)) (dLst (aCons (dLst (aCons (dTup aNil) aNil)) aNil)))) (sSeq sAllDays (sRet (dLcS (dBin opIx (dVar 2) (dC (.int 0))) [6] (uName 6) tdYes (dTup (aCons (dVar 0) (aCons (dCB fList (aCons (dVar 6) aNil)) aNil)))))))
noncomputable def D_law_b1 (c : Cl) : En → SR :=
  (sSeq (sIf (tnd (dTest (dBin opNotB (dMeth c.Frame "lets" 2 8 (D_Frame_lets c) (dVar 5) (aCons (dMake c.Day 3 3 (fun ρ => D_Day___init__ c (fillD 3 [] ρ)) (aCons (dBin opIx (dVar 6) (dC (.int 0))) (aCons (dBin opIx (dVar 6) (dC (.int 1))) aNil))) aNil)) (dC (.bl true)))) (dTest (dCall 2 8 (D__law_is_let c) (aCons (dVar 4) (aCons (dVar 6) aNil))))) (sRet (dC (.bl false))) sNext) (sIf (tnd (dTest (dBin opNotB (dMeth c.Frame "lets" 2 8 (D_Frame_lets c) (dVar 5) (aCons (dMake c.Day 3 3 (fun ρ => D_Day___init__ c (fillD 3 [] ρ)) (aCons (dBin opIx (dVar 6) (dC (.int 0))) (aCons (dBin opIx (dVar 6) (dC (.int 1))) aNil))) aNil)) (dC (.bl false)))) (tnot (dTest (dCall 2 8 (D__law_is_let c) (aCons (dVar 4) (aCons (dVar 6) aNil)))))) (sRet (dC (.bl false))) sNext))
noncomputable def D_law_b2 (c : Cl) : En → SR :=
  (sSeq (sSet 4 (dLend 3 7 (D__law_frame c) 2 (aCons (dC (.int 4)) (aCons (dC (.bl true)) aNil)))) (sSeq (sSet 5 (dCall 1 1 (D__law_frame_of c) (aCons (dVar 4) aNil))) (sForS (dCall 2 8 (D__law_all_days c) (aCons (dBin opIx (dVar 4) (dC (.int 0))) (aCons (dC (.bl true)) aNil))) (uName 6) (D_law_b1 c))))
noncomputable def D_law_b3 (c : Cl) : En → SR :=
  (sSeq (sMulti [4, 6] (nCons (dLend 3 7 (D__law_frame c) 2 (aCons (dC (.int 24)) (aCons (dC (.bl true)) aNil))) (nCons (dLend 3 9 (D__law_day c) 2 (aCons (dC (.int 24)) (aCons (dC (.bl true)) aNil))) aNil))) (sSeq (sSet 4 (dTup (aCons (dBin opIx (dVar 6) (dC (.int 0))) (aCons (dBin opIx (dVar 4) (dC (.int 1))) (aCons (dBin opIx (dVar 4) (dC (.int 2))) (aCons (dBin opIx (dVar 4) (dC (.int 3))) (aCons (dLcS (dBin opIx (dVar 4) (dC (.int 4))) [8] (uName 8) (dTest (dBin opLt (dBin opIx (dVar 8) (dC (.int 0))) (dBin opIx (dVar 6) (dC (.int 0))))) (dVar 8)) aNil))))))) (sSeq (sIf (dTest (dBin opNe (dCB fRepr (aCons (dMeth c.Frame "lets" 2 8 (D_Frame_lets c) (dCall 1 1 (D__law_frame_of c) (aCons (dVar 4) aNil)) (aCons (dMake c.Day 3 3 (fun ρ => D_Day___init__ c (fillD 3 [] ρ)) (aCons (dBin opIx (dVar 6) (dC (.int 0))) (aCons (dBin opIx (dVar 6) (dC (.int 1))) aNil))) aNil)) aNil)) (dCB fRepr (aCons (dCall 2 8 (D__law_is_let c) (aCons (dVar 4) (aCons (dVar 6) aNil))) aNil)))) (sRet (dC (.bl false))) sNext) (sSeq (sSet 7 (dBin opAdd (dTup (aCons (dCB fMin (aCons (dC (.int 24)) (aCons (dCB fInt (aCons (dBin opAdd (dBin opIx (dVar 6) (dC (.int 0))) (dC (.int 1))) aNil)) aNil))) aNil)) (dSl (dVar 4) (oSome (dC (.int 1))) oNone))) (sIf (tnd (dTest (dBin opLt (dBin opIx (dVar 6) (dC (.int 0))) (dC (.int 24)))) (dTest (dMeth c.Frame "lets" 2 8 (D_Frame_lets c) (dCall 1 1 (D__law_frame_of c) (aCons (dVar 7) aNil)) (aCons (dMake c.Day 3 3 (fun ρ => D_Day___init__ c (fillD 3 [] ρ)) (aCons (dBin opIx (dVar 6) (dC (.int 0))) (aCons (dBin opIx (dVar 6) (dC (.int 1))) aNil))) aNil)))) (sRet (dC (.bl false))) sNext)))))
noncomputable def D_law_b4 (c : Cl) : En → SR :=
  (sSeq (sSet 2 (dCall 2 3 (D__law_seed c) (aCons (dVar 0) (aCons (dVar 1) aNil)))) (sSeq (sFor (dRng1 (dC (.int 2))) (uName 3) (D_law_b2 c)) (sFor (dRng1 (dC (.int 20))) (uName 3) (D_law_b3 c))))
noncomputable def D_law (c : Cl) : En → SR :=
  (sSeq (sFor (dRng1 (dCB fMax (aCons (dC (.int 1)) (aCons (dCB fMin (aCons (dC (.int 3)) (aCons (dCB fLen (aCons (dVar 0) aNil)) aNil))) aNil)))) (uName 1) (D_law_b4 c)) (sRet (dAnd (dBin opIsB (dMeth c.Frame "lets" 2 8 (D_Frame_lets c) (dMake c.Frame 3 7 (fun ρ => D_Frame___init__ c (fillD 3 [.non, (.bl false), (.tup [])] ρ)) (aCons (dC (.int 3)) (aCons (dC (.int 2)) aNil))) (aCons (dMake c.Day 3 3 (fun ρ => D_Day___init__ c (fillD 3 [] ρ)) (aCons (dC (.int 3)) (aCons (dLst (aCons (dTup (aCons (dC (.int 0)) (aCons (dC (.int 1)) (aCons (dC (.bl false)) aNil)))) aNil)) aNil))) aNil)) (dC (.bl false))) (dBin opIsB (dMeth c.Frame "lets" 2 8 (D_Frame_lets c) (dMake c.Frame 4 7 (fun ρ => D_Frame___init__ c (fillD 4 [(.bl false), (.tup [])] ρ)) (aCons (dC (.int 3)) (aCons (dC (.int 1)) (aCons (dC (.int 0)) aNil)))) (aCons (dMake c.Day 2 3 (fun ρ => D_Day___init__ c (fillD 2 [(.tup [])] ρ)) (aCons (dC (.int 3)) aNil)) aNil)) (dC (.bl true))))))
end DL
set_option Elab.async false
set_option linter.all false
set_option maxRecDepth 100000
set_option maxHeartbeats 4000000
namespace DD
open PySem PySem.Spec PyProof.Rows L2 StX ClX DL
section
variable {P : Program} {w : World} {K : PySem.W.Frag} {mg : Str → Option Value} {base : Heap} {d : Ad}
theorem ok_is_integer (T : Txt K mg d) : FnR P w K mg base CX0 1 d.f_is_integer (spD0 K 1 1 (D_is_integer (cl d))) :=
  mkDz T.F_is_integer sc_is_integer (by decide) (fun _ _ _ _ _ _ us hl => match us, hl with | [_], _ => rfl) (fun cdv A outer s H E hr => by
    have hu := hr.units
    have hu5 := room5 hr
    exact ⟨_, (pss_one (ps_ret (pe_and (pe_callB call_isi (by rfl) T.b_isinstance (by decide +kernel) (pa_cons (pv 0) (pa_cons (pe_bltn (v := .ty "int") rfl T.b_int (by decide +kernel) rfl) pa_nil))) (pe_one (pe_not (pe_callB call_isi (by rfl) T.b_isinstance (by decide +kernel) (pa_cons (pv 0) (pa_cons (pe_bltn (v := .ty "bool") rfl T.b_bool (by decide +kernel) rfl) pa_nil)))))))), (L_ret (L_and (L_isi (kit_ok T) (tyc T) (.ty "int") (L_var (i := 0))) (L_not (L_isi (kit_ok T) (tyc T) (.ty "bool") (L_var (i := 0))))))⟩)
theorem ok_is_number (T : Txt K mg d) : FnR P w K mg base CX0 2 d.f_is_number (spD0 K 1 1 (D_is_number (cl d))) :=
  mkDz T.F_is_number sc_is_number (by decide) (fun _ _ _ _ _ _ us hl => match us, hl with | [_], _ => rfl) (fun cdv A outer s H E hr => by
    have hu := hr.units
    have hu5 := room5 hr
    exact ⟨_, (pss_one (ps_ret (pe_and (pe_callR (sp := spD0 K 1 1 (D_is_integer (cl d))) (ok_is_integer T) (hr.mono (by decide)) rfl T.m_is_integer T.k_is_integer pass0 (pa_cons (pv 0) pa_nil)) (pe_one (pe_cmpR op_ge (pv 0) pe_int (nomark _)))))), (L_ret (L_and (Lz_call (A_cons (L_var (i := 0)) A_nil)) (L_bin S_ge (L_var (i := 0)) L_int)))⟩)
theorem ok__is_meeting (T : Txt K mg d) : FnR P w K mg base CX0 3 d.f__is_meeting (spD0 K 1 4 (D__is_meeting (cl d))) :=
  mkDz T.F__is_meeting sc__is_meeting (by decide) (fun _ _ _ _ _ _ us hl => match us, hl with | [_], _ => rfl) (fun cdv A outer s H E hr => by
    have hu := hr.units
    have hu5 := room5 hr
    exact ⟨_, (pss_cons (ps_if (PW.pt (pw_or (pt_not (pt_val (pe_callB call_isi (by rfl) T.b_isinstance (by decide +kernel) (pa_cons (pv 0) (pa_cons (pe_bltn (v := .ty "tuple") rfl T.b_tuple (by decide +kernel) rfl) pa_nil))))) (pw_or1 (pt_cmpR (op_ne2 (K := K) hu) (pe_callB (call_len2 (K := K)) (by rfl) T.b_len PySem.boot_len (pa_cons (pv 0) pa_nil)) pe_int (nomark _))))) (pss_one (ps_ret pe_bl)) pss_nil) (pss_cons (ps_asg (pv 0) (pg_tupK (K := K) (n := 3) rfl (pgs_cons (pg_name (i := 1) sc__is_meeting.nd rfl (by first | exact Or.inl rfl | exact Or.inr rfl)) (pgs_cons (pg_name (i := 2) sc__is_meeting.nd rfl (by first | exact Or.inl rfl | exact Or.inr rfl)) (pgs_cons (pg_name (i := 3) sc__is_meeting.nd rfl (by first | exact Or.inl rfl | exact Or.inr rfl)) pgs_nil))))) (pss_one (ps_ret (pe_and (pe_callR (sp := spD0 K 1 1 (D_is_number (cl d))) (ok_is_number T) (hr.mono (by decide)) rfl T.m_is_number T.k_is_number pass0 (pa_cons (pv 1) pa_nil)) (pe_and (pe_callR (sp := spD0 K 1 1 (D_is_number (cl d))) (ok_is_number T) (hr.mono (by decide)) rfl T.m_is_number T.k_is_number pass0 (pa_cons (pv 2) pa_nil)) (pe_and (pe_callB call_isi (by rfl) T.b_isinstance (by decide +kernel) (pa_cons (pv 3) (pa_cons (pe_bltn (v := .ty "bool") rfl T.b_bool (by decide +kernel) rfl) pa_nil))) (pe_one (pe_cmpR (op_lt2 (K := K) hu) (pv 1) (pv 2) (nomark _)))))))))), (L_seq (L_if (L_tor (L_tnot (L_test (L_isi (kit_ok T) (tyc T) (.ty "tuple") (L_var (i := 0))))) (L_test (L_bin S_ne (L_cb C_len (A_cons (L_var (i := 0)) A_nil)) L_int))) (L_ret L_bl) L_next) (L_seq (L_tgt (vs := [1, 2, 3]) (L_var (i := 0)) (U_tup (Us_cons (U_name (by decide)) (Us_cons (U_name (by decide)) (Us_cons (U_name (by decide)) Us_nil))))) (L_ret (L_and (Lz_call (A_cons (L_var (i := 1)) A_nil)) (L_and (Lz_call (A_cons (L_var (i := 2)) A_nil)) (L_and (L_isi (kit_ok T) (tyc T) (.ty "bool") (L_var (i := 3))) (L_bin S_lt2 (L_var (i := 1)) (L_var (i := 2)))))))))⟩)
theorem ok_is_sequence (T : Txt K mg d) : FnR P w K mg base CX0 1 d.f_is_sequence (spD0 K 1 1 (D_is_sequence (cl d))) :=
  mkDz T.F_is_sequence sc_is_sequence (by decide) (fun _ _ _ _ _ _ us hl => match us, hl with | [_], _ => rfl) (fun cdv A outer s H E hr => by
    have hu := hr.units
    have hu5 := room5 hr
    exact ⟨_, (pss_one (ps_ret (pe_callB call_isiT (by rfl) T.b_isinstance (by decide +kernel) (pa_cons (pv 0) (pa_cons (pe_tup (pa_cons (pe_bltn (v := .ty "list") rfl T.b_list (by decide +kernel) rfl) (pa_cons (pe_bltn (v := .ty "tuple") rfl T.b_tuple (by decide +kernel) rfl) pa_nil))) pa_nil))))), (L_ret (L_isiT (cs := [(.ty "list"), (.ty "tuple")]) (kit_ok T) (tyc T) (.cons (.ty "list") (.cons (.ty "tuple") .nil)) (by decide) (L_var (i := 0))))⟩)
theorem ok__are_meetings (T : Txt K mg d) : FnR P w K mg base CX0 4 d.f__are_meetings (spD0 K 2 4 (D__are_meetings (cl d))) :=
  mkDz T.F__are_meetings sc__are_meetings (by decide) (fun _ _ _ _ _ _ us hl => match us, hl with | [_, _], _ => rfl) (fun cdv A outer s H E hr => by
    have hu := hr.units
    have hu5 := room5 hr
    exact ⟨_, (pss_cons (ps_if (pt_not (pt_val (pe_callR (sp := spD0 K 1 1 (D_is_sequence (cl d))) (ok_is_sequence T) (hr.mono (by decide)) rfl T.m_is_sequence T.k_is_sequence pass0 (pa_cons (pv 0) pa_nil)))) (pss_one (ps_ret pe_bl)) pss_nil) (pss_cons (ps_set (i := 2) sc__are_meetings.nd rfl (by first | exact Or.inl rfl | exact Or.inr rfl) pe_int) (pss_cons (ps_for PassesOwn.never rfl (pi_seq (K := K) (pv 0)) (pg_name (i := 3) sc__are_meetings.nd rfl (by first | exact Or.inl rfl | exact Or.inr rfl)) (pss_cons (ps_if (PW.pt (pw_or (pt_not (pt_val (pe_callR (sp := spD0 K 1 4 (D__is_meeting (cl d))) (ok__is_meeting T) (hr.mono (by decide)) rfl T.m__is_meeting T.k__is_meeting pass0 (pa_cons (pv 3) pa_nil)))) (pw_or (pt_cmpR (op_lt2 (K := K) hu) (pe_ix (ix_3 (K := K)) (pv 3) pe_int (fun _ _ => rfl)) (pv 2) (nomark _)) (pw_or1 (pt_cmpR op_gt (pe_ix (ix_3 (K := K)) (pv 3) pe_int (fun _ _ => rfl)) (pv 1) (nomark _)))))) (pss_one (ps_ret pe_bl)) pss_nil) (pss_one (ps_set (i := 2) sc__are_meetings.nd rfl (by first | exact Or.inl rfl | exact Or.inr rfl) (pe_ix (ix_3 (K := K)) (pv 3) pe_int (fun _ _ => rfl)))))) (pss_one (ps_ret pe_bl))))), (L_seq (L_if (L_tnot (L_test (Lz_call (A_cons (L_var (i := 0)) A_nil)))) (L_ret L_bl) L_next) (L_seq (L_set L_int) (L_seq (L_forS (vs := [3]) (L_var (i := 0)) (U_name (by decide)) (L_seq (L_if (L_tor (L_tnot (L_test (Lz_call (A_cons (L_var (i := 3)) A_nil)))) (L_tor (L_test (L_bin S_lt2 (L_bin S_ix (L_var (i := 3)) L_int) (L_var (i := 2)))) (L_test (L_bin S_gt (L_bin S_ix (L_var (i := 3)) L_int) (L_var (i := 1)))))) (L_ret L_bl) L_next) (L_set (L_bin S_ix (L_var (i := 3)) L_int)))) (L_ret L_bl))))⟩)
theorem ok_is_positive (T : Txt K mg d) : FnR P w K mg base CX0 2 d.f_is_positive (spD0 K 1 1 (D_is_positive (cl d))) :=
  mkDz T.F_is_positive sc_is_positive (by decide) (fun _ _ _ _ _ _ us hl => match us, hl with | [_], _ => rfl) (fun cdv A outer s H E hr => by
    have hu := hr.units
    have hu5 := room5 hr
    exact ⟨_, (pss_one (ps_ret (pe_and (pe_callR (sp := spD0 K 1 1 (D_is_integer (cl d))) (ok_is_integer T) (hr.mono (by decide)) rfl T.m_is_integer T.k_is_integer pass0 (pa_cons (pv 0) pa_nil)) (pe_one (pe_cmpR op_ge (pv 0) pe_int (nomark _)))))), (L_ret (L_and (Lz_call (A_cons (L_var (i := 0)) A_nil)) (L_bin S_ge (L_var (i := 0)) L_int)))⟩)
theorem body_Day___init__ (T : Txt K mg d) (cdv : Value) (A : Around) (outer : List Env) (s : Shared) (H : Hp) (E : XK) (hr : Room 4 (A.deeper (envOfC "Day.__init__" (defScope s_Day___init__) s.heap.objs.size d.f_Day___init__ cdv))) :
    ∃ t, PSs (cxOf CX0 P w K mg base ["self", "length", "meetings"] "Day.__init__" (defScope s_Day___init__) d.f_Day___init__ cdv A outer s H E).nox (defBody s_Day___init__) t ∧ LS K E0 t (D_Day___init__ (cl d)) := by
    have hu := hr.units
    have hu5 := room5 hr
    exact ⟨_, (pss_cons (ps_if (pt_not (pt_val (pe_callR (sp := spD0 K 1 1 (D_is_positive (cl d))) (ok_is_positive T) (hr.mono (by decide)) rfl T.m_is_positive T.k_is_positive pass0 (pa_cons (pv 1) pa_nil)))) (pss_one ps_dead) pss_nil) (pss_cons (ps_if (pt_not (pt_val (pe_callR (sp := spD0 K 2 4 (D__are_meetings (cl d))) (ok__are_meetings T) (hr.mono (by decide)) rfl T.m__are_meetings T.k__are_meetings pass0 (pa_cons (pv 2) (pa_cons (pv 1) pa_nil))))) (pss_one ps_dead) pss_nil) (pss_cons (ps_fld (pv 0) (pv 1) rfl) (pss_one (ps_fld (pv 0) (pe_callTy call_tuple_of rfl T.b_tuple (by decide +kernel) (pa_cons (pv 2) pa_nil)) rfl))))), (L_seq (L_if (L_tnot (L_test (Lz_call (A_cons (L_var (i := 1)) A_nil)))) L_dead L_next) (L_seq (L_if (L_tnot (L_test (Lz_call (A_cons (L_var (i := 2)) (A_cons (L_var (i := 1)) A_nil))))) L_dead L_next) (L_seq (L_sfld (i := 0) (fs_Day_length T) (L_var (i := 1))) (L_sfld (i := 0) (fs_Day_meetings T) (L_cb C_tuple (A_cons (L_var (i := 2)) A_nil))))))⟩
theorem ok_Day_init1 (T : Txt K mg d) : FnR P w K mg base CX0 5 d.f_Day___init__ (spD0 K 2 3 (fun ρ => D_Day___init__ (cl d) (fillD 2 [(.tup [])] ρ))) :=
  mkDD (T := D_Day___init__ (cl d)) (N := ["self", "length", "meetings"]) (dd := [(.tup [])]) 2 0 T.F_Day___init__ (by simp [dv_Day]) rfl sc_Day___init__ (by decide) (fun G => (.cons (.tup (T.w_zDay G) .nil) RepA.nil))
    (fun _ _ _ _ _ _ _ us its h1 h2 => match us, its, h1, h2 with | [_, _], [_], _, _ => ⟨_, rfl, rfl⟩)
    (fun cdv A outer s H E hr => let ⟨t, h1, h2⟩ := body_Day___init__ T cdv A outer s H E hr; ⟨t, h1.nox, h2⟩)
theorem ok_Day_init2 (T : Txt K mg d) : FnR P w K mg base CX0 5 d.f_Day___init__ (spD0 K 3 3 (fun ρ => D_Day___init__ (cl d) (fillD 3 [] ρ))) :=
  mkDD (T := D_Day___init__ (cl d)) (N := ["self", "length", "meetings"]) (dd := []) 3 1 T.F_Day___init__ (by simp [dv_Day]) rfl sc_Day___init__ (by decide) (fun G => RepA.nil)
    (fun _ _ _ _ _ _ _ us its h1 h2 => match us, its, h1, h2 with | [_, _, _], [_], _, _ => ⟨_, rfl, rfl⟩)
    (fun cdv A outer s H E hr => let ⟨t, h1, h2⟩ := body_Day___init__ T cdv A outer s H E hr; ⟨t, h1.nox, h2⟩)
end
end DD
set_option Elab.async false
set_option linter.all false
set_option maxRecDepth 100000
set_option maxHeartbeats 4000000
namespace DD
open PySem PySem.Spec PyProof.Rows L2 StX ClX DL
section
variable {P : Program} {w : World} {K : PySem.W.Frag} {mg : Str → Option Value} {base : Heap} {d : Ad}
theorem ok__is_known (T : Txt K mg d) : FnR P w K mg base CX0 3 d.f__is_known (spD0 K 2 4 (D__is_known (cl d))) :=
  mkDz T.F__is_known sc__is_known (by decide) (fun _ _ _ _ _ _ us hl => match us, hl with | [_, _], _ => rfl) (fun cdv A outer s H E hr => by
    have hu := hr.units
    have hu5 := room5 hr
    exact ⟨_, (pss_cons (ps_if (PW.pt (pw_or (pt_not (pt_val (pe_callB call_isi (by rfl) T.b_isinstance (by decide +kernel) (pa_cons (pv 0) (pa_cons (pe_bltn (v := .ty "tuple") rfl T.b_tuple (by decide +kernel) rfl) pa_nil))))) (pw_or1 (pt_cmpR (op_ne2 (K := K) hu) (pe_callB (call_len2 (K := K)) (by rfl) T.b_len PySem.boot_len (pa_cons (pv 0) pa_nil)) pe_int (nomark _))))) (pss_one (ps_ret pe_bl)) pss_nil) (pss_cons (ps_asg (pv 0) (pg_tupK (K := K) (n := 2) rfl (pgs_cons (pg_name (i := 2) sc__is_known.nd rfl (by first | exact Or.inl rfl | exact Or.inr rfl)) (pgs_cons (pg_name (i := 3) sc__is_known.nd rfl (by first | exact Or.inl rfl | exact Or.inr rfl)) pgs_nil)))) (pss_one (ps_ret (pe_and (pe_callR (sp := spD0 K 1 1 (D_is_number (cl d))) (ok_is_number T) (hr.mono (by decide)) rfl T.m_is_number T.k_is_number pass0 (pa_cons (pv 2) pa_nil)) (pe_and (pe_cmpR (op_lt2 (K := K) hu) (pv 2) (pv 1) (nomark _)) (pe_one (pe_callB call_isi (by rfl) T.b_isinstance (by decide +kernel) (pa_cons (pv 3) (pa_cons (pe_bltn (v := .ty "bool") rfl T.b_bool (by decide +kernel) rfl) pa_nil)))))))))), (L_seq (L_if (L_tor (L_tnot (L_test (L_isi (kit_ok T) (tyc T) (.ty "tuple") (L_var (i := 0))))) (L_test (L_bin S_ne (L_cb C_len (A_cons (L_var (i := 0)) A_nil)) L_int))) (L_ret L_bl) L_next) (L_seq (L_tgt (vs := [2, 3]) (L_var (i := 0)) (U_tup (Us_cons (U_name (by decide)) (Us_cons (U_name (by decide)) Us_nil)))) (L_ret (L_and (Lz_call (A_cons (L_var (i := 2)) A_nil)) (L_and (L_bin S_lt2 (L_var (i := 2)) (L_var (i := 1))) (L_isi (kit_ok T) (tyc T) (.ty "bool") (L_var (i := 3))))))))⟩)
theorem ok__are_known (T : Txt K mg d) : FnR P w K mg base CX0 4 d.f__are_known (spD0 K 2 3 (D__are_known (cl d))) :=
  mkDz T.F__are_known sc__are_known (by decide) (fun _ _ _ _ _ _ us hl => match us, hl with | [_, _], _ => rfl) (fun cdv A outer s H E hr => by
    have hu := hr.units
    have hu5 := room5 hr
    exact ⟨_, (pss_one (ps_ret (pe_and (pe_callR (sp := spD0 K 1 1 (D_is_sequence (cl d))) (ok_is_sequence T) (hr.mono (by decide)) rfl T.m_is_sequence T.k_is_sequence pass0 (pa_cons (pv 0) pa_nil)) (pe_one (pe_callB (cr_all rfl) (by rfl) T.b_all (by decide +kernel) (pa_cons (pe_lc (own := [("pair", 2)]) rfl sc__are_known.nd (pi_seq (K := K) (pv 0)) (blkOk_by (N := ["value", "length", "pair"]) (sc := defScope s__are_known) (by decide +kernel)) (fun _ _ _ _ _ => (pg_name (i := 2) sc__are_known.nd rfl (by first | exact Or.inl rfl | exact Or.inr rfl))) (fun _ _ _ _ _ => pts_nil) (fun _ _ _ _ _ => (pe_callR (sp := spD0 K 2 4 (D__is_known (cl d))) (ok__is_known T) (hr.mono (by decide)) rfl T.m__is_known T.k__is_known pass0 (pa_cons (pv 2) (pa_cons (pv 1) pa_nil))))) pa_nil)))))), (L_ret (L_and (Lz_call (A_cons (L_var (i := 0)) A_nil)) (L_cb C_all (A_cons (L_lcS (Et := E0) (Ea := E0) (L_var (i := 0)) (U_name (by decide)) L_yes (Lz_call (A_cons (L_var (i := 2)) (A_cons (L_var (i := 1)) A_nil)))) A_nil))))⟩)
theorem ok__wrong_argument (T : Txt K mg d) : FnR P w K mg base CX0 5 d.f__wrong_argument (spD0 K 5 5 (D_wrong_argument_frames (cl d))) :=
  mkDz T.F__wrong_argument sc__wrong_argument (by decide) (fun _ _ _ _ _ _ us hl => match us, hl with | [_, _, _, _, _], _ => rfl) (fun cdv A outer s H E hr => by
    have hu := hr.units
    have hu5 := room5 hr
    exact ⟨_, (pss_cons (ps_if (pt_not (pt_val (pe_callR (sp := spD0 K 1 1 (D_is_positive (cl d))) (ok_is_positive T) (hr.mono (by decide)) rfl T.m_is_positive T.k_is_positive pass0 (pa_cons (pv 0) pa_nil)))) (pss_one (ps_ret pe_str)) pss_nil) (pss_cons (ps_if (pt_not (pt_val (pe_callR (sp := spD0 K 1 1 (D_is_positive (cl d))) (ok_is_positive T) (hr.mono (by decide)) rfl T.m_is_positive T.k_is_positive pass0 (pa_cons (pv 1) pa_nil)))) (pss_one (ps_ret pe_str)) pss_nil) (pss_cons (ps_if (PW.pt (pw_and (pt_cmp (pc_notN (pv 2))) (pw_and1 (pt_not (pt_val (pe_callR (sp := spD0 K 1 1 (D_is_number (cl d))) (ok_is_number T) (hr.mono (by decide)) rfl T.m_is_number T.k_is_number pass0 (pa_cons (pv 2) pa_nil))))))) (pss_one (ps_ret pe_str)) pss_nil) (pss_cons (ps_if (pt_not (pt_val (pe_callB call_isi (by rfl) T.b_isinstance (by decide +kernel) (pa_cons (pv 3) (pa_cons (pe_bltn (v := .ty "bool") rfl T.b_bool (by decide +kernel) rfl) pa_nil))))) (pss_one (ps_ret pe_str)) pss_nil) (pss_cons (ps_if (pt_not (pt_val (pe_callR (sp := spD0 K 2 3 (D__are_known (cl d))) (ok__are_known T) (hr.mono (by decide)) rfl T.m__are_known T.k__are_known pass0 (pa_cons (pv 4) (pa_cons (pv 0) pa_nil))))) (pss_one (ps_ret pe_str)) pss_nil) (pss_one (ps_ret pe_non))))))), (L_seq (L_if (L_tnot (L_test (Lz_call (A_cons (L_var (i := 0)) A_nil)))) (L_ret L_str) L_next) (L_seq (L_if (L_tnot (L_test (Lz_call (A_cons (L_var (i := 1)) A_nil)))) (L_ret L_str) L_next) (L_seq (L_if (L_tand (L_test (L_notN (L_var (i := 2)))) (L_tnot (L_test (Lz_call (A_cons (L_var (i := 2)) A_nil))))) (L_ret L_str) L_next) (L_seq (L_if (L_tnot (L_test (L_isi (kit_ok T) (tyc T) (.ty "bool") (L_var (i := 3))))) (L_ret L_str) L_next) (L_seq (L_if (L_tnot (L_test (Lz_call (A_cons (L_var (i := 4)) (A_cons (L_var (i := 0)) A_nil))))) (L_ret L_str) L_next) (L_ret L_non))))))⟩)
theorem body_Frame___init__ (T : Txt K mg d) (cdv : Value) (A : Around) (outer : List Env) (s : Shared) (H : Hp) (E : XK) (hr : Room 5 (A.deeper (envOfC "Frame.__init__" (defScope s_Frame___init__) s.heap.objs.size d.f_Frame___init__ cdv))) :
    ∃ t, PSs (cxOf CX0 P w K mg base ["self", "length", "shortest", "most", "private", "known", "wrong"] "Frame.__init__" (defScope s_Frame___init__) d.f_Frame___init__ cdv A outer s H E).nox (defBody s_Frame___init__) t ∧ LS K E0 t (D_Frame___init__ (cl d)) := by
    have hu := hr.units
    have hu5 := room5 hr
    exact ⟨_, (pss_cons (ps_set (i := 6) sc_Frame___init__.nd rfl (by first | exact Or.inl rfl | exact Or.inr rfl) (pe_callR (sp := spD0 K 5 5 (D_wrong_argument_frames (cl d))) (ok__wrong_argument T) (hr.mono (by decide)) rfl T.m__wrong_argument T.k__wrong_argument pass0 (pa_cons (pv 1) (pa_cons (pv 2) (pa_cons (pv 3) (pa_cons (pv 4) (pa_cons (pv 5) pa_nil))))))) (pss_cons (ps_if (pt_cmp (pc_notN (pv 6))) (pss_one ps_dead) pss_nil) (pss_cons (ps_fld (pv 0) (pv 1) rfl) (pss_cons (ps_fld (pv 0) (pv 2) rfl) (pss_cons (ps_fld (pv 0) (pv 3) rfl) (pss_cons (ps_fld (pv 0) (pv 4) rfl) (pss_one (ps_fld (pv 0) (pe_callTy call_tuple_of rfl T.b_tuple (by decide +kernel) (pa_cons (pv 5) pa_nil)) rfl)))))))), (L_seq (L_set (Lz_call (A_cons (L_var (i := 1)) (A_cons (L_var (i := 2)) (A_cons (L_var (i := 3)) (A_cons (L_var (i := 4)) (A_cons (L_var (i := 5)) A_nil))))))) (L_seq (L_if (L_test (L_notN (L_var (i := 6)))) L_dead L_next) (L_seq (L_sfld (i := 0) (fs_Frame_length T) (L_var (i := 1))) (L_seq (L_sfld (i := 0) (fs_Frame_shortest T) (L_var (i := 2))) (L_seq (L_sfld (i := 0) (fs_Frame_most T) (L_var (i := 3))) (L_seq (L_sfld (i := 0) (fs_Frame_private T) (L_var (i := 4))) (L_sfld (i := 0) (fs_Frame_known T) (L_cb C_tuple (A_cons (L_var (i := 5)) A_nil)))))))))⟩
theorem ok_Frame_init2 (T : Txt K mg d) : FnR P w K mg base CX0 6 d.f_Frame___init__ (spD0 K 3 7 (fun ρ => D_Frame___init__ (cl d) (fillD 3 [.non, (.bl false), (.tup [])] ρ))) :=
  mkDD (T := D_Frame___init__ (cl d)) (N := ["self", "length", "shortest", "most", "private", "known", "wrong"]) (dd := [.non, (.bl false), (.tup [])]) 3 1 T.F_Frame___init__ (by simp [dv_Frame]) rfl sc_Frame___init__ (by decide) (fun G => (.cons .non (.cons (.bl _) (.cons (.tup (T.w_zFrame G) .nil) RepA.nil))))
    (fun _ _ _ _ _ _ _ us its h1 h2 => match us, its, h1, h2 with | [_, _, _], [_, _, _, _], _, _ => ⟨_, rfl, rfl⟩)
    (fun cdv A outer s H E hr => let ⟨t, h1, h2⟩ := body_Frame___init__ T cdv A outer s H E hr; ⟨t, h1.nox, h2⟩)
theorem ok_Frame_init3 (T : Txt K mg d) : FnR P w K mg base CX0 6 d.f_Frame___init__ (spD0 K 4 7 (fun ρ => D_Frame___init__ (cl d) (fillD 4 [(.bl false), (.tup [])] ρ))) :=
  mkDD (T := D_Frame___init__ (cl d)) (N := ["self", "length", "shortest", "most", "private", "known", "wrong"]) (dd := [(.bl false), (.tup [])]) 4 2 T.F_Frame___init__ (by simp [dv_Frame]) rfl sc_Frame___init__ (by decide) (fun G => (.cons (.bl _) (.cons (.tup (T.w_zFrame G) .nil) RepA.nil)))
    (fun _ _ _ _ _ _ _ us its h1 h2 => match us, its, h1, h2 with | [_, _, _, _], [_, _, _, _], _, _ => ⟨_, rfl, rfl⟩)
    (fun cdv A outer s H E hr => let ⟨t, h1, h2⟩ := body_Frame___init__ T cdv A outer s H E hr; ⟨t, h1.nox, h2⟩)
theorem ok_Frame_init5 (T : Txt K mg d) : FnR P w K mg base CX0 6 d.f_Frame___init__ (spD0 K 6 7 (fun ρ => D_Frame___init__ (cl d) (fillD 6 [] ρ))) :=
  mkDD (T := D_Frame___init__ (cl d)) (N := ["self", "length", "shortest", "most", "private", "known", "wrong"]) (dd := []) 6 4 T.F_Frame___init__ (by simp [dv_Frame]) rfl sc_Frame___init__ (by decide) (fun G => RepA.nil)
    (fun _ _ _ _ _ _ _ us its h1 h2 => match us, its, h1, h2 with | [_, _, _, _, _, _], [_, _, _, _], _, _ => ⟨_, rfl, rfl⟩)
    (fun cdv A outer s H E hr => let ⟨t, h1, h2⟩ := body_Frame___init__ T cdv A outer s H E hr; ⟨t, h1.nox, h2⟩)
theorem ok_Day_taken (T : Txt K mg d) : FnR P w K mg base CX0 1 d.f_Day_taken (spD0 K 1 3 (D_Day_taken_2 (cl d))) :=
  mkDz T.F_Day_taken sc_Day_taken (by decide) (fun _ _ _ _ _ _ us hl => match us, hl with | [_], _ => rfl) (fun cdv A outer s H E hr => by
    have hu := hr.units
    have hu5 := room5 hr
    exact ⟨_, (pss_one (ps_ret (pe_callTy call_tuple_of rfl T.b_tuple (by decide +kernel) (pa_cons (pe_lc2 (own := [("meeting", 1), ("tick", 2)]) (vs1 := [2]) rfl sc_Day_taken.nd (pi_seq (K := K) (pe_fldK (K := K) (pv 0) rfl)) (blkOk_by (N := ["self", "meeting", "tick"]) (sc := defScope s_Day_taken) (by decide +kernel)) (by decide) (fun _ _ _ _ _ => (pg_name (i := 1) sc_Day_taken.nd rfl (by first | exact Or.inl rfl | exact Or.inr rfl))) (fun _ _ _ _ _ => pts_nil) (fun _ _ _ _ _ => (pi_range2 rfl T.b_range (pa_cons (pe_ix (ix_3 (K := K)) (pv 1) pe_int (fun _ _ => rfl)) (pa_cons (pe_ix (ix_3 (K := K)) (pv 1) pe_int (fun _ _ => rfl)) pa_nil)))) (fun _ _ _ _ _ => (pg_name (i := 2) sc_Day_taken.nd rfl (by first | exact Or.inl rfl | exact Or.inr rfl))) (fun _ _ _ _ _ => pts_nil) (fun _ _ _ _ _ => (pv 2))) pa_nil)))), (L_ret (L_cb C_tuple (A_cons (L_lc2 (Et := E0) (Ea := E0) (Es := E0) (Et1 := E0) (I_seq (L_fld (fa_meetings T) (L_var (i := 0)))) (U_name (by decide)) L_yes (I_rng2 (L_bin S_ix (L_var (i := 1)) L_int) (L_bin S_ix (L_var (i := 1)) L_int)) (U_name (by decide)) L_yes (L_var (i := 2))) A_nil)))⟩)
theorem ok_Frame_lets (T : Txt K mg d) : FnR P w K mg base CX0 3 d.f_Frame_lets (spD0 K 2 8 (D_Frame_lets (cl d))) :=
  mkDz T.F_Frame_lets sc_Frame_lets (by decide) (fun _ _ _ _ _ _ us hl => match us, hl with | [_, _], _ => rfl) (fun cdv A outer s H E hr => by
    have hu := hr.units
    have hu5 := room5 hr
    exact ⟨_, (pss_cons (ps_if (PW.pt (pw_or (pt_cmpR (op_ne2 (K := K) hu) (pe_fldK (K := K) (pv 1) rfl) (pe_fldK (K := K) (pv 0) rfl) (nomark _)) (pw_or1 (PW.pt (pw_and (pt_cmp (pc_notN (pe_fldK (K := K) (pv 0) rfl))) (pw_and1 (pt_cmpR op_gt (pe_callB (call_len2 (K := K)) (by rfl) T.b_len PySem.boot_len (pa_cons (pe_fldK (K := K) (pv 1) rfl) pa_nil)) (pe_fldK (K := K) (pv 0) rfl) (nomark _)))))))) (pss_one (ps_ret pe_bl)) pss_nil) (pss_cons (ps_for PassesOwn.never rfl (pi_seq (K := K) (pe_fldK (K := K) (pv 1) rfl)) (pg_tupK (K := K) (n := 3) rfl (pgs_cons (pg_name (i := 3) sc_Frame_lets.nd rfl (by first | exact Or.inl rfl | exact Or.inr rfl)) (pgs_cons (pg_name (i := 4) sc_Frame_lets.nd rfl (by first | exact Or.inl rfl | exact Or.inr rfl)) (pgs_cons (pg_name (i := 5) sc_Frame_lets.nd rfl (by first | exact Or.inl rfl | exact Or.inr rfl)) pgs_nil)))) (pss_one (ps_if (PW.pt (pw_or (pt_cmpR (op_lt2 (K := K) hu) (pe_op op_sub (pv 4) (pv 3)) (pe_fldK (K := K) (pv 0) rfl) (nomark _)) (pw_or1 (PW.pt (pw_and (pt_val (pv 5)) (pw_and1 (pt_not (pt_val (pe_fldK (K := K) (pv 0) rfl))))))))) (pss_one (ps_ret pe_bl)) pss_nil))) (pss_cons (ps_set (i := 2) sc_Frame_lets.nd rfl (by first | exact Or.inl rfl | exact Or.inr rfl) (pe_propR (sp := spD0 K 1 3 (D_Day_taken_2 (cl d))) (pv 1) T.cl_Day T.p_Day_taken (ok_Day_taken T) (hr.mono (by decide)) pass0)) (pss_one (ps_ret (pe_callB (cr_all rfl) (by rfl) T.b_all (by decide +kernel) (pa_cons (pe_lc (own := [("tick", 6), ("is_taken", 7)]) rfl sc_Frame_lets.nd (pi_seq (K := K) (pe_fldK (K := K) (pv 0) rfl)) (blkOk_by (N := ["self", "day", "taken", "begin", "end", "is_private", "tick", "is_taken"]) (sc := defScope s_Frame_lets) (by decide +kernel)) (fun _ _ _ _ _ => (pg_tupK (K := K) (n := 2) rfl (pgs_cons (pg_name (i := 6) sc_Frame_lets.nd rfl (by first | exact Or.inl rfl | exact Or.inr rfl)) (pgs_cons (pg_name (i := 7) sc_Frame_lets.nd rfl (by first | exact Or.inl rfl | exact Or.inr rfl)) pgs_nil)))) (fun _ _ _ _ _ => pts_nil) (fun _ _ _ _ _ => (pe_cmpR (op_eq2 (K := K) hu) (pe_cmpR (op_in2 (K := K) hu5) (pv 6) (pv 2) rfl) (pv 7) (nomark _)))) pa_nil))))))), (L_seq (L_if (L_tor (L_test (L_bin S_ne (L_fld (fa_length T) (L_var (i := 1))) (L_fld (fa_length T) (L_var (i := 0))))) (L_tand (L_test (L_notN (L_fld (fa_most T) (L_var (i := 0))))) (L_test (L_bin S_gt (L_cb C_len (A_cons (L_fld (fa_meetings T) (L_var (i := 1))) A_nil)) (L_fld (fa_most T) (L_var (i := 0))))))) (L_ret L_bl) L_next) (L_seq (L_forS (vs := [3, 4, 5]) (L_fld (fa_meetings T) (L_var (i := 1))) (U_tup (Us_cons (U_name (by decide)) (Us_cons (U_name (by decide)) (Us_cons (U_name (by decide)) Us_nil)))) (L_if (L_tor (L_test (L_bin S_lt2 (L_bin S_sub (L_var (i := 4)) (L_var (i := 3))) (L_fld (fa_shortest T) (L_var (i := 0))))) (L_tand (L_test (L_var (i := 5))) (L_tnot (L_test (L_fld (fa_private T) (L_var (i := 0))))))) (L_ret L_bl) L_next)) (L_seq (L_set (Lz_prop (L_var (i := 1)))) (L_ret (L_cb C_all (A_cons (L_lcS (Et := E0) (Ea := E0) (L_fld (fa_known T) (L_var (i := 0))) (U_tup (Us_cons (U_name (by decide)) (Us_cons (U_name (by decide)) Us_nil))) L_yes (L_bin S_eq (L_bin S_in (L_var (i := 6)) (L_var (i := 2))) (L_var (i := 7)))) A_nil))))))⟩)
end
end DD
set_option Elab.async false
set_option linter.all false
set_option maxRecDepth 100000
set_option maxHeartbeats 4000000
namespace DD
open PySem PySem.Spec PyProof.Rows L2 StX ClX DL
section
variable {P : Program} {w : World} {K : PySem.W.Frag} {mg : Str → Option Value} {base : Heap} {d : Ad}
theorem ok__law_all_days (T : Txt K mg d) : FnR P w K mg base CX0 1 d.f__law_all_days (spD0 K 2 8 (D__law_all_days (cl d))) :=
  mkDz T.F__law_all_days sc__law_all_days (by decide) (fun _ _ _ _ _ _ us hl => match us, hl with | [_, _], _ => rfl) (fun cdv A outer s H E hr => by
    have hu := hr.units
    have hu5 := room5 hr
    exact ⟨_, (pss_cons (ps_set (i := 2) sc__law_all_days.nd rfl (by first | exact Or.inl rfl | exact Or.inr rfl) (pe_op (op_add4 (K := K)) (pe_lc (own := [("_law_spot", 3)]) rfl sc__law_all_days.nd (pi_range1 rfl T.b_range (pa_cons (pv 0) pa_nil)) (blkOk_by (N := ["_law_size", "_law_is_secret", "_law_whole", "_law_spot", "_law_end", "_law_secret", "_law_meetings", "_law_rest"]) (sc := defScope s__law_all_days) (by decide +kernel)) (fun _ _ _ _ _ => (pg_name (i := 3) sc__law_all_days.nd rfl (by first | exact Or.inl rfl | exact Or.inr rfl))) (fun _ _ _ _ _ => pts_nil) (fun _ _ _ _ _ => (pe_lst pa_nil))) (pe_lst (pa_cons (pe_lst (pa_cons (pe_tup pa_nil) pa_nil)) pa_nil)))) (pss_cons (ps_for PassesOwn.never rfl (pi_range3 rfl T.b_range (pa_cons (pe_op op_sub (pv 0) pe_int) (pa_cons (pe_un un_neg pe_int) (pa_cons (pe_un un_neg pe_int) pa_nil)))) (pg_name (i := 3) sc__law_all_days.nd rfl (by first | exact Or.inl rfl | exact Or.inr rfl)) (pss_cons (ps_asg (pe_callTy call_list_of rfl T.b_list (by decide +kernel) (pa_cons (pe_ix (ix_3 (K := K)) (pv 2) (pe_op (op_add4 (K := K)) (pv 3) pe_int) (fun _ _ => rfl)) pa_nil)) (pg_sub (pv 2) (pv 3) set_list)) (pss_one (ps_for PassesOwn.never rfl (pi_range2 rfl T.b_range (pa_cons (pe_op (op_add4 (K := K)) (pv 3) pe_int) (pa_cons (pe_op (op_add4 (K := K)) (pv 0) pe_int) pa_nil))) (pg_name (i := 4) sc__law_all_days.nd rfl (by first | exact Or.inl rfl | exact Or.inr rfl)) (pss_one (ps_for PassesOwn.never rfl (pi_seq (K := K) (pe_ifExp (pt_val (pv 1)) (pe_lst (pa_cons pe_bl (pa_cons pe_bl pa_nil))) (pe_lst (pa_cons pe_bl pa_nil)))) (pg_name (i := 5) sc__law_all_days.nd rfl (by first | exact Or.inl rfl | exact Or.inr rfl)) (pss_one (ps_expr (pe_bm PySem.F.plainAttrs_list PySem.F.slot_list_extend PySem.F.type_list_extend mt_extend (pe_ix (ix_3 (K := K)) (pv 2) (pv 3) (fun _ _ => rfl)) (pa_cons (pe_lc (own := [("_law_rest", 7)]) rfl sc__law_all_days.nd (pi_seq (K := K) (pe_ix (ix_3 (K := K)) (pv 2) (pv 4) (fun _ _ => rfl))) (blkOk_by (N := ["_law_size", "_law_is_secret", "_law_whole", "_law_spot", "_law_end", "_law_secret", "_law_meetings", "_law_rest"]) (sc := defScope s__law_all_days) (by decide +kernel)) (fun _ _ _ _ _ => (pg_name (i := 7) sc__law_all_days.nd rfl (by first | exact Or.inl rfl | exact Or.inr rfl))) (fun _ _ _ _ _ => pts_nil) (fun _ _ _ _ _ => (pe_op (op_add4 (K := K)) (pe_tup (pa_cons (pe_tup (pa_cons (pv 3) (pa_cons (pv 4) (pa_cons (pv 5) pa_nil)))) pa_nil)) (pv 7)))) pa_nil)))))))))) (pss_one (ps_ret (pe_lc (own := [("_law_meetings", 6)]) rfl sc__law_all_days.nd (pi_seq (K := K) (pe_ix (ix_3 (K := K)) (pv 2) pe_int (fun _ _ => rfl))) (blkOk_by (N := ["_law_size", "_law_is_secret", "_law_whole", "_law_spot", "_law_end", "_law_secret", "_law_meetings", "_law_rest"]) (sc := defScope s__law_all_days) (by decide +kernel)) (fun _ _ _ _ _ => (pg_name (i := 6) sc__law_all_days.nd rfl (by first | exact Or.inl rfl | exact Or.inr rfl))) (fun _ _ _ _ _ => pts_nil) (fun _ _ _ _ _ => (pe_tup (pa_cons (pv 0) (pa_cons (pe_callTy call_list_of rfl T.b_list (by decide +kernel) (pa_cons (pv 6) pa_nil)) pa_nil))))))))), (L_seq (L_set (L_bin S_add4 (L_lc (Et := E0) (Ea := E0) (I_rng1 (L_var (i := 0))) (U_name (by decide)) L_yes (L_lst A_nil)) (L_lst (A_cons (L_lst (A_cons (L_tup A_nil) A_nil)) A_nil)))) (L_seq LS_allDays (L_ret (L_lcS (Et := E0) (Ea := E0) (L_bin S_ix (L_var (i := 2)) L_int) (U_name (by decide)) L_yes (L_tup (A_cons (L_var (i := 0)) (A_cons (L_cb C_list (A_cons (L_var (i := 6)) A_nil)) A_nil)))))))⟩)
theorem ok__law_choose (T : Txt K mg d) : FnR P w K mg base CX0 1 d.f__law_choose (spD0 K 2 4 (D__law_choose (cl d))) :=
  mkDz T.F__law_choose sc__law_choose (by decide) (fun _ _ _ _ _ _ us hl => match us, hl with | [_, _], _ => rfl) (fun cdv A outer s H E hr => by
    have hu := hr.units
    have hu5 := room5 hr
    exact ⟨_, (pss_cons (ps_if (pt_cmpR op_gt (pe_ix (ix_3 (K := K)) (pv 0) pe_int (fun _ _ => rfl)) pe_int (nomark _)) (pss_cons (ps_set (i := 3) sc__law_choose.nd rfl (by first | exact Or.inl rfl | exact Or.inr rfl) (pe_op op_mod (pe_callTy call_int2 rfl T.b_int (by decide +kernel) (pa_cons (pe_ix (ix_3 (K := K)) (pv 0) pe_int (fun _ _ => rfl)) pa_nil)) (pv 1))) (pss_cons (ps_asg (pe_op op_fdiv (pe_ix (ix_3 (K := K)) (pv 0) pe_int (fun _ _ => rfl)) (pv 1)) (pg_sub (pv 0) pe_int set_list)) (pss_one (ps_ret (pv 3))))) pss_nil) (pss_cons (ps_set (i := 2) sc__law_choose.nd rfl (by first | exact Or.inl rfl | exact Or.inr rfl) (pe_op op_mod (pe_callTy call_int2 rfl T.b_int (by decide +kernel) (pa_cons (pe_op (op_add4 (K := K)) (pe_op op_mul (pe_ix (ix_3 (K := K)) (pv 0) pe_int (fun _ _ => rfl)) pe_int) pe_int) pa_nil)) pe_int)) (pss_cons (ps_asg (pe_op (op_add4 (K := K)) (pe_op op_mod (pe_callTy call_int2 rfl T.b_int (by decide +kernel) (pa_cons (pe_op (op_add4 (K := K)) (pe_op op_mul (pv 2) pe_int) pe_int) pa_nil)) pe_int) pe_int) (pg_sub (pv 0) pe_int set_list)) (pss_one (ps_ret (pe_op op_mod (pe_callTy call_int2 rfl T.b_int (by decide +kernel) (pa_cons (pe_op op_fdiv (pe_op (op_add4 (K := K)) (pe_op op_mul (pv 2) pe_int) (pe_ix (ix_3 (K := K)) (pv 0) pe_int (fun _ _ => rfl))) pe_int) pa_nil)) (pv 1))))))), (L_seq (L_if (L_test (L_bin S_gt (L_bin S_ix (L_var (i := 0)) L_int) L_int)) (L_seq (L_set (L_bin S_mod (L_cb C_int (A_cons (L_bin S_ix (L_var (i := 0)) L_int) A_nil)) (L_var (i := 1)))) (L_seq (L_put (i := 0) (L_bin S_fdiv (L_bin S_ix (L_var (i := 0)) L_int) (L_var (i := 1))) L_int) (L_ret (L_var (i := 3))))) L_next) (L_seq (L_set (L_bin S_mod (L_cb C_int (A_cons (L_bin S_add4 (L_bin S_mul (L_bin S_ix (L_var (i := 0)) L_int) L_int) L_int) A_nil)) L_int)) (L_seq (L_put (i := 0) (L_bin S_add4 (L_bin S_mod (L_cb C_int (A_cons (L_bin S_add4 (L_bin S_mul (L_var (i := 2)) L_int) L_int) A_nil)) L_int) L_int) L_int) (L_ret (L_bin S_mod (L_cb C_int (A_cons (L_bin S_fdiv (L_bin S_add4 (L_bin S_mul (L_var (i := 2)) L_int) (L_bin S_ix (L_var (i := 0)) L_int)) L_int) A_nil)) (L_var (i := 1)))))))⟩)
theorem ok__law_one_of (T : Txt K mg d) : FnR P w K mg base CX0 2 d.f__law_one_of (spD0 K 2 2 (D__law_one_of (cl d))) :=
  mkDz T.F__law_one_of sc__law_one_of (by decide) (fun _ _ _ _ _ _ us hl => match us, hl with | [_, _], _ => rfl) (fun cdv A outer s H E hr => by
    have hu := hr.units
    have hu5 := room5 hr
    exact ⟨_, (pss_one (ps_ret (pe_ix (ix_3 (K := K)) (pv 1) (pe_callR (sp := spD0 K 2 4 (D__law_choose (cl d))) (ok__law_choose T) (hr.mono (by decide)) rfl T.m__law_choose T.k__law_choose pass0 (pa_cons (pv 0) (pa_cons (pe_callB (call_len2 (K := K)) (by rfl) T.b_len PySem.boot_len (pa_cons (pv 1) pa_nil)) pa_nil))) (fun _ _ => rfl)))), (L_ret (L_bin S_ix (L_var (i := 1)) (Lz_lend (i := 0) (A_cons (L_cb C_len (A_cons (L_var (i := 1)) A_nil)) A_nil))))⟩)
theorem ok__law_day (T : Txt K mg d) : FnR P w K mg base CX0 3 d.f__law_day (spD0 K 3 9 (D__law_day (cl d))) :=
  mkDz T.F__law_day sc__law_day (by decide) (fun _ _ _ _ _ _ us hl => match us, hl with | [_, _, _], _ => rfl) (fun cdv A outer s H E hr => by
    have hu := hr.units
    have hu5 := room5 hr
    exact ⟨_, (pss_cons (ps_par3 (i := 4) (j := 5) (l := 6) rfl sc__law_day.nd rfl rfl rfl (by decide) (by decide) (by decide) rfl rfl rfl (pa_cons (pe_op (op_add4 (K := K)) pe_int (pe_callR (sp := spD0 K 2 4 (D__law_choose (cl d))) (ok__law_choose T) (hr.mono (by decide)) rfl T.m__law_choose T.k__law_choose pass0 (pa_cons (pv 0) (pa_cons (pv 1) pa_nil)))) (pa_cons (pe_lst pa_nil) (pa_cons pe_int pa_nil))) (by rfl)) (pss_cons (ps_for PassesOwn.never rfl (pi_range1 rfl T.b_range (pa_cons pe_int pa_nil)) (pg_name (i := 3) sc__law_day.nd rfl (by first | exact Or.inl rfl | exact Or.inr rfl)) (pss_cons (ps_set (i := 7) sc__law_day.nd rfl (by first | exact Or.inl rfl | exact Or.inr rfl) (pe_op (op_add4 (K := K)) (pv 6) (pe_callR (sp := spD0 K 2 2 (D__law_one_of (cl d))) (ok__law_one_of T) (hr.mono (by decide)) rfl T.m__law_one_of T.k__law_one_of pass0 (pa_cons (pv 0) (pa_cons (pe_lst (pa_cons pe_int (pa_cons pe_int (pa_cons pe_int (pa_cons pe_int (pa_cons pe_int (pa_cons pe_int (pa_cons pe_int pa_nil)))))))) pa_nil))))) (pss_cons (ps_set (i := 8) sc__law_day.nd rfl (by first | exact Or.inl rfl | exact Or.inr rfl) (pe_op (op_add4 (K := K)) (pv 7) (pe_callR (sp := spD0 K 2 2 (D__law_one_of (cl d))) (ok__law_one_of T) (hr.mono (by decide)) rfl T.m__law_one_of T.k__law_one_of pass0 (pa_cons (pv 0) (pa_cons (pe_lst (pa_cons pe_int (pa_cons pe_int (pa_cons pe_int (pa_cons pe_int (pa_cons pe_int (pa_cons pe_int pa_nil))))))) pa_nil))))) (pss_one (ps_if (pt_cmpR op_le (pv 8) (pv 4) (nomark _)) (pss_cons (ps_expr (pe_bm PySem.F.plainAttrs_list PySem.F.slot_list_append PySem.F.type_list_append mt_append (pv 5) (pa_cons (pe_tup (pa_cons (pv 7) (pa_cons (pv 8) (pa_cons (pe_and (pv 2) (pe_one (pe_cmpR (op_eq2 (K := K) hu) (pe_callR (sp := spD0 K 2 4 (D__law_choose (cl d))) (ok__law_choose T) (hr.mono (by decide)) rfl T.m__law_choose T.k__law_choose pass0 (pa_cons (pv 0) (pa_cons pe_int pa_nil))) pe_int (nomark _)))) pa_nil)))) pa_nil))) (pss_one (ps_set (i := 6) sc__law_day.nd rfl (by first | exact Or.inl rfl | exact Or.inr rfl) (pv 8)))) pss_nil))))) (pss_one (ps_ret (pe_tup (pa_cons (pv 4) (pa_cons (pv 5) pa_nil))))))), (L_seq (L_par3 (N_cons (L_bin S_add4 L_int (Lz_lend (i := 0) (A_cons (L_var (i := 1)) A_nil))) (N_cons (L_lst A_nil) (N_cons L_int N_nil)))) (L_seq (L_for (vs := [3]) (I_rng1 L_int) (U_name (by decide)) (L_seq (L_set (L_bin S_add4 (L_var (i := 6)) (Lz_lend (i := 0) (A_cons (L_lst (A_cons L_int (A_cons L_int (A_cons L_int (A_cons L_int (A_cons L_int (A_cons L_int (A_cons L_int A_nil)))))))) A_nil)))) (L_seq (L_set (L_bin S_add4 (L_var (i := 7)) (Lz_lend (i := 0) (A_cons (L_lst (A_cons L_int (A_cons L_int (A_cons L_int (A_cons L_int (A_cons L_int (A_cons L_int A_nil))))))) A_nil)))) (L_if (L_test (L_bin S_le (L_var (i := 8)) (L_var (i := 4)))) (L_seq (L_drop (L_mut (i := 5) M_append (A_cons (L_tup (A_cons (L_var (i := 7)) (A_cons (L_var (i := 8)) (A_cons (L_and (L_var (i := 2)) (L_bin S_eq (Lz_lend (i := 0) (A_cons L_int A_nil)) L_int)) A_nil)))) A_nil))) (L_set (L_var (i := 8)))) L_next)))) (L_ret (L_tup (A_cons (L_var (i := 4)) (A_cons (L_var (i := 5)) A_nil))))))⟩)
theorem ok__law_frame (T : Txt K mg d) : FnR P w K mg base CX0 3 d.f__law_frame (spD0 K 3 7 (D__law_frame (cl d))) :=
  mkDz T.F__law_frame sc__law_frame (by decide) (fun _ _ _ _ _ _ us hl => match us, hl with | [_, _, _], _ => rfl) (fun cdv A outer s H E hr => by
    have hu := hr.units
    have hu5 := room5 hr
    exact ⟨_, (pss_cons (ps_par (i := 5) (j := 6) rfl sc__law_frame.nd rfl rfl (by decide) rfl rfl (pa_cons (pe_op (op_add4 (K := K)) pe_int (pe_callR (sp := spD0 K 2 4 (D__law_choose (cl d))) (ok__law_choose T) (hr.mono (by decide)) rfl T.m__law_choose T.k__law_choose pass0 (pa_cons (pv 0) (pa_cons (pv 1) pa_nil)))) (pa_cons (pe_lst pa_nil) pa_nil)) (by first | rfl | exact sw2 (by rfl) (by rfl) (by rfl))) (pss_cons (ps_for PassesOwn.never rfl (pi_range1 rfl T.b_range (pa_cons (pe_callR (sp := spD0 K 2 2 (D__law_one_of (cl d))) (ok__law_one_of T) (hr.mono (by decide)) rfl T.m__law_one_of T.k__law_one_of pass0 (pa_cons (pv 0) (pa_cons (pe_lst (pa_cons pe_int (pa_cons pe_int (pa_cons pe_int (pa_cons pe_int (pa_cons pe_int pa_nil)))))) pa_nil))) pa_nil)) (pg_name (i := 3) sc__law_frame.nd rfl (by first | exact Or.inl rfl | exact Or.inr rfl)) (pss_one (ps_expr (pe_bm PySem.F.plainAttrs_list PySem.F.slot_list_append PySem.F.type_list_append mt_append (pv 6) (pa_cons (pe_tup (pa_cons (pe_callR (sp := spD0 K 2 4 (D__law_choose (cl d))) (ok__law_choose T) (hr.mono (by decide)) rfl T.m__law_choose T.k__law_choose pass0 (pa_cons (pv 0) (pa_cons (pv 5) pa_nil))) (pa_cons (pe_cmpR (op_eq2 (K := K) hu) (pe_callR (sp := spD0 K 2 4 (D__law_choose (cl d))) (ok__law_choose T) (hr.mono (by decide)) rfl T.m__law_choose T.k__law_choose pass0 (pa_cons (pv 0) (pa_cons pe_int pa_nil))) pe_int (nomark _)) pa_nil))) pa_nil))))) (pss_cons (ps_set (i := 4) sc__law_frame.nd rfl (by first | exact Or.inl rfl | exact Or.inr rfl) (pe_callR (sp := spD0 K 2 2 (D__law_one_of (cl d))) (ok__law_one_of T) (hr.mono (by decide)) rfl T.m__law_one_of T.k__law_one_of pass0 (pa_cons (pv 0) (pa_cons (pe_lst (pa_cons pe_non (pa_cons pe_non (pa_cons (pe_callR (sp := spD0 K 2 4 (D__law_choose (cl d))) (ok__law_choose T) (hr.mono (by decide)) rfl T.m__law_choose T.k__law_choose pass0 (pa_cons (pv 0) (pa_cons pe_int pa_nil))) pa_nil)))) pa_nil)))) (pss_one (ps_ret (pe_tup (pa_cons (pv 5) (pa_cons (pe_callR (sp := spD0 K 2 2 (D__law_one_of (cl d))) (ok__law_one_of T) (hr.mono (by decide)) rfl T.m__law_one_of T.k__law_one_of pass0 (pa_cons (pv 0) (pa_cons (pe_lst (pa_cons pe_int (pa_cons pe_int (pa_cons pe_int (pa_cons pe_int pa_nil))))) pa_nil))) (pa_cons (pv 4) (pa_cons (pe_and (pv 2) (pe_one (pe_cmpR (op_eq2 (K := K) hu) (pe_callR (sp := spD0 K 2 4 (D__law_choose (cl d))) (ok__law_choose T) (hr.mono (by decide)) rfl T.m__law_choose T.k__law_choose pass0 (pa_cons (pv 0) (pa_cons pe_int pa_nil))) pe_int (nomark _)))) (pa_cons (pv 6) pa_nil))))))))))), (L_seq (L_par (N_cons (L_bin S_add4 L_int (Lz_lend (i := 0) (A_cons (L_var (i := 1)) A_nil))) (N_cons (L_lst A_nil) N_nil))) (L_seq (L_for (vs := [3]) (I_rng1 (Lz_lend (i := 0) (A_cons (L_lst (A_cons L_int (A_cons L_int (A_cons L_int (A_cons L_int (A_cons L_int A_nil)))))) A_nil))) (U_name (by decide)) (L_drop (L_mut (i := 6) M_append (A_cons (L_tup (A_cons (Lz_lend (i := 0) (A_cons (L_var (i := 5)) A_nil)) (A_cons (L_bin S_eq (Lz_lend (i := 0) (A_cons L_int A_nil)) L_int) A_nil))) A_nil)))) (L_seq (L_set (Lz_lend (i := 0) (A_cons (L_lst (A_cons L_non (A_cons L_non (A_cons (Lz_lend (i := 0) (A_cons L_int A_nil)) A_nil)))) A_nil))) (L_ret (L_tup (A_cons (L_var (i := 5)) (A_cons (Lz_lend (i := 0) (A_cons (L_lst (A_cons L_int (A_cons L_int (A_cons L_int (A_cons L_int A_nil))))) A_nil)) (A_cons (L_var (i := 4)) (A_cons (L_and (L_var (i := 2)) (L_bin S_eq (Lz_lend (i := 0) (A_cons L_int A_nil)) L_int)) (A_cons (L_var (i := 6)) A_nil))))))))))⟩)
theorem ok__law_is_let (T : Txt K mg d) : FnR P w K mg base CX0 1 d.f__law_is_let (spD0 K 2 8 (D__law_is_let (cl d))) :=
  mkDz T.F__law_is_let sc__law_is_let (by decide) (fun _ _ _ _ _ _ us hl => match us, hl with | [_, _], _ => rfl) (fun cdv A outer s H E hr => by
    have hu := hr.units
    have hu5 := room5 hr
    exact ⟨_, (pss_cons (ps_set (i := 2) sc__law_is_let.nd rfl (by first | exact Or.inl rfl | exact Or.inr rfl) (pe_lst pa_nil)) (pss_cons (ps_for PassesOwn.never rfl (pi_seq (K := K) (pe_ix (ix_3 (K := K)) (pv 1) pe_int (fun _ _ => rfl))) (pg_tupK (K := K) (n := 3) rfl (pgs_cons (pg_name (i := 3) sc__law_is_let.nd rfl (by first | exact Or.inl rfl | exact Or.inr rfl)) (pgs_cons (pg_name (i := 4) sc__law_is_let.nd rfl (by first | exact Or.inl rfl | exact Or.inr rfl)) (pgs_cons (pg_name (i := 5) sc__law_is_let.nd rfl (by first | exact Or.inl rfl | exact Or.inr rfl)) pgs_nil)))) (pss_cons (ps_expr (pe_bm PySem.F.plainAttrs_list PySem.F.slot_list_extend PySem.F.type_list_extend mt_extend (pv 2) (pa_cons (pe_listRg rfl rfl T.b_list (prg_2 rfl T.b_range (pv 3) (pv 4))) pa_nil))) (pss_one (ps_if (PW.pt (pw_or (pt_cmpR (op_lt2 (K := K) hu) (pe_op op_sub (pv 4) (pv 3)) (pe_ix (ix_3 (K := K)) (pv 0) pe_int (fun _ _ => rfl)) (nomark _)) (pw_or1 (PW.pt (pw_and (pt_val (pv 5)) (pw_and1 (pt_not (pt_val (pe_ix (ix_3 (K := K)) (pv 0) pe_int (fun _ _ => rfl)))))))))) (pss_one (ps_ret pe_bl)) pss_nil)))) (pss_cons (ps_if (PW.pt (pw_or (pt_cmpR (op_ne2 (K := K) hu) (pe_ix (ix_3 (K := K)) (pv 1) pe_int (fun _ _ => rfl)) (pe_ix (ix_3 (K := K)) (pv 0) pe_int (fun _ _ => rfl)) (nomark _)) (pw_or1 (PW.pt (pw_and (pt_cmp (pc_notN (pe_ix (ix_3 (K := K)) (pv 0) pe_int (fun _ _ => rfl)))) (pw_and1 (pt_cmpR op_gt (pe_callB (call_len2 (K := K)) (by rfl) T.b_len PySem.boot_len (pa_cons (pe_ix (ix_3 (K := K)) (pv 1) pe_int (fun _ _ => rfl)) pa_nil)) (pe_ix (ix_3 (K := K)) (pv 0) pe_int (fun _ _ => rfl)) (nomark _)))))))) (pss_one (ps_ret pe_bl)) pss_nil) (pss_one (ps_ret (pe_cmpR (op_eq2 (K := K) hu) (pe_lc (own := [("_law_tick", 6), ("_law_is_full", 7)]) rfl sc__law_is_let.nd (pi_seq (K := K) (pe_ix (ix_3 (K := K)) (pv 0) pe_int (fun _ _ => rfl))) (blkOk_by (N := ["_law_frame_here", "_law_day_here", "_law_full", "_law_begin", "_law_end", "_law_secret", "_law_tick", "_law_is_full"]) (sc := defScope s__law_is_let) (by decide +kernel)) (fun _ _ _ _ _ => (pg_tupK (K := K) (n := 2) rfl (pgs_cons (pg_name (i := 6) sc__law_is_let.nd rfl (by first | exact Or.inl rfl | exact Or.inr rfl)) (pgs_cons (pg_name (i := 7) sc__law_is_let.nd rfl (by first | exact Or.inl rfl | exact Or.inr rfl)) pgs_nil)))) (fun _ _ _ _ _ => (pts_one (pt_cmpR (op_ne2 (K := K) hu) (pe_cmpR (op_in2 (K := K) hu5) (pv 6) (pv 2) rfl) (pv 7) (nomark _)))) (fun _ _ _ _ _ => (pv 6))) (pe_lst pa_nil) (nomark _))))))), (L_seq (L_set (L_lst A_nil)) (L_seq (L_forS (vs := [3, 4, 5]) (L_bin S_ix (L_var (i := 1)) L_int) (U_tup (Us_cons (U_name (by decide)) (Us_cons (U_name (by decide)) (Us_cons (U_name (by decide)) Us_nil)))) (L_seq (L_drop (L_mut (i := 2) M_extend (A_cons (L_lstRg (G_2 (L_var (i := 3)) (L_var (i := 4)))) A_nil))) (L_if (L_tor (L_test (L_bin S_lt2 (L_bin S_sub (L_var (i := 4)) (L_var (i := 3))) (L_bin S_ix (L_var (i := 0)) L_int))) (L_tand (L_test (L_var (i := 5))) (L_tnot (L_test (L_bin S_ix (L_var (i := 0)) L_int))))) (L_ret L_bl) L_next))) (L_seq (L_if (L_tor (L_test (L_bin S_ne (L_bin S_ix (L_var (i := 1)) L_int) (L_bin S_ix (L_var (i := 0)) L_int))) (L_tand (L_test (L_notN (L_bin S_ix (L_var (i := 0)) L_int))) (L_test (L_bin S_gt (L_cb C_len (A_cons (L_bin S_ix (L_var (i := 1)) L_int) A_nil)) (L_bin S_ix (L_var (i := 0)) L_int))))) (L_ret L_bl) L_next) (L_ret (L_bin S_eq (L_lcS (Et := E0) (Ea := E0) (L_bin S_ix (L_var (i := 0)) L_int) (U_tup (Us_cons (U_name (by decide)) (Us_cons (U_name (by decide)) Us_nil))) (L_test (L_bin S_ne (L_bin S_in (L_var (i := 6)) (L_var (i := 2))) (L_var (i := 7)))) (L_var (i := 6))) (L_lst A_nil))))))⟩)
theorem ok__law_made_frame (T : Txt K mg d) : FnR P w K mg base CX0 8 d.f__law_made_frame (spD0 K 1 1 (D__law_frame_of (cl d))) :=
  mkDz T.F__law_made_frame sc__law_made_frame (by decide) (fun _ _ _ _ _ _ us hl => match us, hl with | [_], _ => rfl) (fun cdv A outer s H E hr => by
    have hu := hr.units
    have hu5 := room5 hr
    exact ⟨_, (pss_one (ps_ret (pe_makeR (sp := spD0 K 6 7 (fun ρ => D_Frame___init__ (cl d) (fillD 6 [] ρ))) T.mk_Frame (ok_Frame_init5 T) (hr.mono (by decide)) rfl T.m_Frame pass0 (pa_cons (pe_ix (ix_3 (K := K)) (pv 0) pe_int (fun _ _ => rfl)) (pa_cons (pe_ix (ix_3 (K := K)) (pv 0) pe_int (fun _ _ => rfl)) (pa_cons (pe_ix (ix_3 (K := K)) (pv 0) pe_int (fun _ _ => rfl)) (pa_cons (pe_ix (ix_3 (K := K)) (pv 0) pe_int (fun _ _ => rfl)) (pa_cons (pe_ix (ix_3 (K := K)) (pv 0) pe_int (fun _ _ => rfl)) pa_nil)))))))), (L_ret (Lz_make (A_cons (L_bin S_ix (L_var (i := 0)) L_int) (A_cons (L_bin S_ix (L_var (i := 0)) L_int) (A_cons (L_bin S_ix (L_var (i := 0)) L_int) (A_cons (L_bin S_ix (L_var (i := 0)) L_int) (A_cons (L_bin S_ix (L_var (i := 0)) L_int) A_nil)))))))⟩)
theorem ok__law_seed (T : Txt K mg d) : FnR P w K mg base CX0 1 d.f__law_seed (spD0 K 2 3 (D__law_seed (cl d))) :=
  mkDz T.F__law_seed sc__law_seed (by decide) (fun _ _ _ _ _ _ us hl => match us, hl with | [_, _], _ => rfl) (fun cdv A outer s H E hr => by
    have hu := hr.units
    have hu5 := room5 hr
    exact ⟨_, (pss_cons (ps_set (i := 2) sc__law_seed.nd rfl (by first | exact Or.inl rfl | exact Or.inr rfl) (pe_op (op_add4 (K := K)) (pe_op op_mul pe_int (pv 1)) pe_int)) (pss_cons (ps_if (pt_cmpR (op_lt2 (K := K) hu) (pv 1) (pe_callB (call_len2 (K := K)) (by rfl) T.b_len PySem.boot_len (pa_cons (pv 0) pa_nil)) (nomark _)) (pss_one (ps_set (i := 2) sc__law_seed.nd rfl (by first | exact Or.inl rfl | exact Or.inr rfl) (pe_callB call_abs (by rfl) T.b_abs (by decide +kernel) (pa_cons (pe_ix (ix_3 (K := K)) (pv 0) (pv 1) (fun _ _ => rfl)) pa_nil)))) (pss_one (ps_if (pt_cmpR op_gt (pe_callB (call_len2 (K := K)) (by rfl) T.b_len PySem.boot_len (pa_cons (pv 0) pa_nil)) pe_int (nomark _)) (pss_one (ps_set (i := 2) sc__law_seed.nd rfl (by first | exact Or.inl rfl | exact Or.inr rfl) (pe_op (op_add4 (K := K)) (pv 2) (pe_op op_mul (pe_op op_mod (pe_callTy call_int2 rfl T.b_int (by decide +kernel) (pa_cons (pe_callB call_abs (by rfl) T.b_abs (by decide +kernel) (pa_cons (pe_ix (ix_3 (K := K)) (pv 0) (pe_op op_mod (pe_callTy call_int2 rfl T.b_int (by decide +kernel) (pa_cons (pv 1) pa_nil)) (pe_callB (call_len2 (K := K)) (by rfl) T.b_len PySem.boot_len (pa_cons (pv 0) pa_nil))) (fun _ _ => rfl)) pa_nil)) pa_nil)) pe_int) pe_int)))) pss_nil))) (pss_one (ps_ret (pe_lst (pa_cons (pe_ifExp (pt_cmpR op_ge (pv 2) (pe_op op_pow pe_int pe_int) (nomark _)) (pv 2) pe_int) (pa_cons (pe_op (op_add4 (K := K)) (pe_op op_mod (pe_callTy call_int2 rfl T.b_int (by decide +kernel) (pa_cons (pe_op (op_add4 (K := K)) (pe_op op_mul (pe_op op_mod (pe_callTy call_int2 rfl T.b_int (by decide +kernel) (pa_cons (pv 2) pa_nil)) pe_int) pe_int) (pe_op op_mul pe_int (pv 1))) pa_nil)) pe_int) pe_int) pa_nil))))))), (L_seq (L_set (L_bin S_add4 (L_bin S_mul L_int (L_var (i := 1))) L_int)) (L_seq (L_if (L_test (L_bin S_lt2 (L_var (i := 1)) (L_cb C_len (A_cons (L_var (i := 0)) A_nil)))) (L_set (L_cb C_abs (A_cons (L_bin S_ix (L_var (i := 0)) (L_var (i := 1))) A_nil))) (L_if (L_test (L_bin S_gt (L_cb C_len (A_cons (L_var (i := 0)) A_nil)) L_int)) (L_set (L_bin S_add4 (L_var (i := 2)) (L_bin S_mul (L_bin S_mod (L_cb C_int (A_cons (L_cb C_abs (A_cons (L_bin S_ix (L_var (i := 0)) (L_bin S_mod (L_cb C_int (A_cons (L_var (i := 1)) A_nil)) (L_cb C_len (A_cons (L_var (i := 0)) A_nil)))) A_nil)) A_nil)) L_int) L_int))) L_next)) (L_ret (L_lst (A_cons (L_ifE (L_test (L_bin S_ge (L_var (i := 2)) (L_bin S_pow L_int L_int))) (L_var (i := 2)) L_int) (A_cons (L_bin S_add4 (L_bin S_mod (L_cb C_int (A_cons (L_bin S_add4 (L_bin S_mul (L_bin S_mod (L_cb C_int (A_cons (L_var (i := 2)) A_nil)) L_int) L_int) (L_bin S_mul L_int (L_var (i := 1)))) A_nil)) L_int) L_int) A_nil))))))⟩)
end
end DD
set_option linter.all false
set_option maxRecDepth 100000
set_option maxHeartbeats 1000000
namespace DL
open PySem PySem.Spec PyProof.Rows L2 DD
section
variable {α β : Type} {ρ : En}
@[simp] theorem r_bind_ok {a : α} {U : α → En → Res β} : (Res.ok a ρ).bind U = U a ρ := rfl
@[simp] theorem r_bind_st {U : α → En → Res β} : (Res.stuck : Res α).bind U = .stuck := rfl
@[simp] theorem r_sb_ok {a : α} {U : α → En → SR} : (Res.ok a ρ).sb U = U a ρ := rfl
@[simp] theorem r_sb_st {U : α → En → SR} : (Res.stuck : Res α).sb U = .stuck := rfl
end
@[simp] theorem q_dVar {i : Nat} {ρ : En} : dVar i ρ = (match ρ[i]? with
  | some (.val d) => .ok (.val d) ρ
  | some (.own _) | some (.bor _) | some (.lck _) => .ok (.own i) ρ
  | _ => .stuck) := rfl
@[simp] theorem q_dC {d : D} {ρ : En} : dC d ρ = (.ok (.val d) ρ) := rfl
@[simp] theorem q_dBin {op : D2} {A B : En → Res X} {ρ : En} : dBin op A B ρ = ((A ρ).bind fun a ρ1 => (B ρ1).bind fun b ρ2 => ap2 op a.settle b ρ2) := rfl
@[simp] theorem q_dIsN {A : En → Res X} {ρ : En} : dIsN A ρ = ((A ρ).bind fun a ρ1 => match deref ρ1 a with
  | some d => .ok (.val (.bl d.isNon)) ρ1
  | none => .stuck) := rfl
@[simp] theorem q_dNotN {A : En → Res X} {ρ : En} : dNotN A ρ = ((A ρ).bind fun a ρ1 => match deref ρ1 a with
  | some d => .ok (.val (.bl !d.isNon)) ρ1
  | none => .stuck) := rfl
@[simp] theorem q_dTest {A : En → Res X} {ρ : En} : dTest A ρ = ((A ρ).bind fun a ρ1 => lift (asB ρ1 a) ρ1) := rfl
@[simp] theorem q_dNot {A : En → Res X} {ρ : En} : dNot A ρ = ((A ρ).bind fun a ρ1 => lift ((asB ρ1 a).map fun b => X.val (.bl !b)) ρ1) := rfl
@[simp] theorem q_dAnd {A B : En → Res X} {ρ : En} : dAnd A B ρ = ((A ρ).bind fun a ρ1 => match asB ρ1 a with
  | some true => B ρ1
  | some false => .ok (.val (.bl false)) ρ1
  | none => .stuck) := rfl
@[simp] theorem q_dOr {A B : En → Res X} {ρ : En} : dOr A B ρ = ((A ρ).bind fun a ρ1 => match asB ρ1 a with
  | some false => B ρ1
  | some true => .ok (.val (.bl true)) ρ1
  | none => .stuck) := rfl
@[simp] theorem q_tnd {T U : En → Res Bool} {ρ : En} : tnd T U ρ = ((T ρ).bind fun a ρ1 => match a with
  | true => U ρ1
  | false => .ok false ρ1) := rfl
@[simp] theorem q_tor {T U : En → Res Bool} {ρ : En} : tor T U ρ = ((T ρ).bind fun a ρ1 => match a with
  | true => .ok true ρ1
  | false => U ρ1) := rfl
@[simp] theorem q_tnot {T : En → Res Bool} {ρ : En} : tnot T ρ = ((T ρ).bind fun a ρ1 => .ok (!a) ρ1) := rfl
@[simp] theorem q_dIfE {T : En → Res Bool} {A B : En → Res X} {ρ : En} : dIfE T A B ρ = ((T ρ).bind fun a ρ1 => match a with
  | true => A ρ1
  | false => B ρ1) := rfl
@[simp] theorem q_dChain {op op' : D2} {A B C : En → Res X} {ρ : En} : dChain op op' A B C ρ = ((A ρ).bind fun a ρ1 => (B ρ1).bind fun b ρ2 => (ap2 op a.settle b.settle ρ2).bind fun z ρ3 => match asB ρ3 z with
  | some true => (C ρ3).bind fun c ρ4 => ap2 op' b.settle c ρ4
  | some false => .ok (.val (.bl false)) ρ3
  | none => .stuck) := rfl
@[simp] theorem q_aNil  {ρ : En} : aNil  ρ = (.ok [] ρ) := rfl
@[simp] theorem q_aCons {A : En → Res X} {T : En → Res (List X)} {ρ : En} : aCons A T ρ = ((A ρ).bind fun a ρ1 => (T ρ1).bind fun as ρ2 => .ok (a.settle :: as) ρ2) := rfl
@[simp] theorem q_dTup {T : En → Res (List X)} {ρ : En} : dTup T ρ = ((T ρ).bind fun xs ρ1 => match toVals ρ1 xs with
  | some (ds, ρ2) => if ds.length ≤ sizeLine then .ok (.val (.tup ds)) ρ2 else .stuck
  | none => .stuck) := rfl
@[simp] theorem q_dLst {T : En → Res (List X)} {ρ : En} : dLst T ρ = ((T ρ).bind fun xs ρ1 => match toVals ρ1 xs with
  | some (ds, ρ2) => if ds.length ≤ sizeLine then .ok (.new (.lst ds)) ρ2 else .stuck
  | none => .stuck) := rfl
@[simp] theorem q_oNone  {ρ : En} : oNone  ρ = (.ok none ρ) := rfl
@[simp] theorem q_oSome {A : En → Res X} {ρ : En} : oSome A ρ = ((A ρ).bind fun a ρ1 => lift ((asI ρ1 a).map some) ρ1) := rfl
@[simp] theorem q_dSl {A : En → Res X} {L U : En → Res (Option Int)} {ρ : En} : dSl A L U ρ = ((A ρ).bind fun a ρ1 => (L ρ1).bind fun lo ρ2 => (U ρ2).bind fun hi ρ3 => match deref ρ3 a.settle with
  | some d => lift (opSl d lo hi) ρ3
  | none => .stuck) := rfl
@[simp] theorem q_dCB {f : List D → Option X} {T : En → Res (List X)} {ρ : En} : dCB f T ρ = ((T ρ).bind (apN f)) := rfl
@[simp] theorem q_g1 {A : En → Res X} {ρ : En} : g1 A ρ = ((A ρ).bind fun a ρ1 => lift ((asI ρ1 a).map fun n => (0, n)) ρ1) := rfl
@[simp] theorem q_g2 {A B : En → Res X} {ρ : En} : g2 A B ρ = ((A ρ).bind fun a ρ1 => (B ρ1).bind fun b ρ2 => match asI ρ2 a.settle, asI ρ2 b with
  | some i, some j => .ok (i, j) ρ2
  | _, _ => .stuck) := rfl
@[simp] theorem q_dFmt {A : En → Res X} {ρ : En} : dFmt A ρ = ((A ρ).bind fun a ρ1 => match deref ρ1 a with
  | some d => lift ((fmtD d).map fun s => X.val (.str s)) ρ1
  | none => .stuck) := rfl
@[simp] theorem q_jNil  {acc : Str} {ρ : En} : jNil  acc ρ = (.ok acc ρ) := rfl
@[simp] theorem q_jCons {A : En → Res X} {J : Str → En → Res Str} {acc : Str} {ρ : En} : jCons A J acc ρ = ((A ρ).bind fun a ρ1 => match deref ρ1 a with
  | some (.str y) => if (acc ++ y).length ≤ sizeLine then J (acc ++ y) ρ1 else .stuck
  | _ => .stuck) := rfl
@[simp] theorem q_dJoin {J : Str → En → Res Str} {ρ : En} : dJoin J ρ = ((J Str.empty ρ).bind fun s ρ1 => .ok (.val (.str s)) ρ1) := rfl
@[simp] theorem q_dMt {f : D → List D → Option X} {A : En → Res X} {T : En → Res (List X)} {ρ : En} : dMt f A T ρ = ((A ρ).bind fun a ρ1 => match deref ρ1 a with
  | some (.str s) => (T ρ1).bind fun xs ρ2 => match derefs ρ2 xs with
    | some ds => lift (f (.str s) ds) ρ2
    | none => .stuck
  | _ => .stuck) := rfl
@[simp] theorem q_sNext  {ρ : En} : sNext  ρ = (.nx ρ) := rfl
@[simp] theorem q_sSeq {S U : En → SR} {ρ : En} : sSeq S U ρ = (match S ρ with
  | .nx ρ1 => U ρ1
  | r => r) := rfl
@[simp] theorem q_sDrop {A : En → Res X} {ρ : En} : sDrop A ρ = ((A ρ).sb fun _ ρ1 => .nx ρ1) := rfl
@[simp] theorem q_sRet {A : En → Res X} {ρ : En} : sRet A ρ = ((A ρ).sb fun a ρ1 => .rt a ρ1) := rfl
@[simp] theorem q_sRetN  {ρ : En} : sRetN  ρ = (.rt (.val .non) ρ) := rfl
@[simp] theorem q_sBreak  {ρ : En} : sBreak  ρ = (.bk ρ) := rfl
@[simp] theorem q_sCont  {ρ : En} : sCont  ρ = (.ct ρ) := rfl
@[simp] theorem q_sIf {T : En → Res Bool} {S U : En → SR} {ρ : En} : sIf T S U ρ = ((T ρ).sb fun b ρ1 => match b with
  | true => S ρ1
  | false => U ρ1) := rfl
@[simp] theorem q_sSet {i : Nat} {A : En → Res X} {ρ : En} : sSet i A ρ = ((A ρ).sb fun a ρ1 => putX i a ρ1) := rfl
@[simp] theorem q_sTgt {U : Tg} {A : En → Res X} {ρ : En} : sTgt U A ρ = ((A ρ).sb fun a ρ1 => match toVal ρ1 a with
  | some (d, ρ2) => match U d ρ2 with
    | some ρ3 => .nx ρ3
    | none => .stuck
  | none => .stuck) := rfl
@[simp] theorem q_eMut {i : Nat} {f : Mu} {T : En → Res (List X)} {ρ : En} : eMut i f T ρ = (match lstAt ρ i with
  | none => .stuck
  | some _ => (T ρ).bind fun xs ρ1 => match toVals ρ1 xs with
    | none => .stuck
    | some (as, ρ2) => match lstAt ρ2 i with
      | none => .stuck
      | some ds => match f ds as with
        | none => .stuck
        | some (z, ds') => .ok (.val z) (setAt ρ2 i ds')) := rfl
@[simp] theorem q_sPut {i : Nat} {A B : En → Res X} {ρ : En} : sPut i A B ρ = ((A ρ).sb fun a ρ1 => match toVal ρ1 a with
  | none => .stuck
  | some (d, ρ2) => match lstAt ρ2 i with
    | none => .stuck
    | some _ => (B ρ2).sb fun b ρ3 => match asI ρ3 b, lstAt ρ3 i with
      | some k, some ds => match ixN ds.length k with
        | some j => .nx (setAt ρ3 i (ds.set j d))
        | none => .stuck
      | _, _ => .stuck) := rfl
@[simp] theorem q_dFld {Cs : List Addr} {f : Str} {A : En → Res X} {ρ : En} : dFld Cs f A ρ = ((A ρ).bind fun a ρ1 => match deref ρ1 a with
  | some (.ins C ks ds) => if C ∈ Cs then lift ((getF f ks ds).map X.val) ρ1 else .stuck
  | _ => .stuck) := rfl
@[simp] theorem q_sFldD {Cs : List Addr} {i : Nat} {f : Str} {A : En → Res X} {ρ : En} : sFldD Cs i f A ρ = ((A ρ).sb fun a ρ1 => match toVal ρ1 a with
  | none => .stuck
  | some (d, ρ2) => match insAt ρ2 i with
    | some (C, ks, ds) => if C ∈ Cs ∧ ks.length < 1000 then .nx (setIns ρ2 i (.ins C (putFD f d ks ds).1 (putFD f d ks ds).2)) else .stuck
    | none => .stuck) := rfl
@[simp] theorem q_nCons {A : En → Res X} {T : En → Res (List X)} {ρ : En} : nCons A T ρ = ((A ρ).bind fun a ρ1 => match a with
  | .own j => match toVal ρ1 (.own j) with
    | some (d, ρ2) => (T ρ2).bind fun as ρ3 => .ok (.val d :: as) ρ3
    | none => .stuck
  | a => (T ρ1).bind fun as ρ2 => .ok (a :: as) ρ2) := rfl
@[simp] theorem q_sMulti {is : List Nat} {T : En → Res (List X)} {ρ : En} : sMulti is T ρ = ((T ρ).sb fun xs ρ1 => puts is xs ρ1) := rfl
@[simp] theorem q_dRng1 {A : En → Res X} {ρ : En} : dRng1 A ρ = ((A ρ).bind fun a ρ1 => match asI ρ1 a with
  | some j => if -(2 ^ 62) ≤ j ∧ j < 2 ^ 62 then .ok ((List.range j.toNat).map fun i => D.int (0 + (i : Nat))) ρ1 else .stuck
  | none => .stuck) := rfl
@[simp] theorem q_dRng2 {A B : En → Res X} {ρ : En} : dRng2 A B ρ = ((A ρ).bind fun a ρ1 => (B ρ1).bind fun b ρ2 => match asI ρ2 a.settle, asI ρ2 b with
  | some i, some j => if -(2 ^ 62) ≤ i ∧ i < 2 ^ 62 ∧ -(2 ^ 62) ≤ j ∧ j < 2 ^ 62 then .ok ((List.range (j - i).toNat).map fun n => D.int (i + (n : Nat))) ρ2 else .stuck
  | _, _ => .stuck) := rfl
@[simp] theorem q_sFor {S : En → Res (List D)} {U : Tg} {B : En → SR} {ρ : En} : sFor S U B ρ = ((S ρ).sb fun ds ρ1 => forL U B ds ρ1) := rfl
@[simp] theorem q_sForS {A : En → Res X} {U : Tg} {B : En → SR} {ρ : En} : sForS A U B ρ = ((seqOf A ρ).sb fun p ρ1 => match p.1 with
  | none => forL U B p.2 ρ1
  | some i => (forL U B p.2 ρ1).unlock i) := rfl
@[simp] theorem q_dLc {S : En → Res (List D)} {vs : List Nat} {U : Tg} {T : En → Res Bool} {A : En → Res X} {ρ : En} : dLc S vs U T A ρ = ((S ρ).bind fun ds ρ1 => lcAll vs U T A ds ρ1) := rfl
@[simp] theorem q_tdYes  {ρ : En} : tdYes  ρ = (.ok true ρ) := rfl
@[simp] theorem q_dLcS {A0 : En → Res X} {vs : List Nat} {U : Tg} {T : En → Res Bool} {A : En → Res X} {ρ : En} : dLcS A0 vs U T A ρ = ((seqOf A0 ρ).bind fun p ρ1 => match p.1 with
  | none => lcAll vs U T A p.2 ρ1
  | some i => (lcAll vs U T A p.2 ρ1).unlock i) := rfl
@[simp] theorem q_dCall {n m : Nat} {T : En → SR} {A : En → Res (List X)} {ρ : En} : dCall n m T A ρ = ((A ρ).bind fun xs ρ1 => match toVals ρ1 xs with
  | some (ds, ρ2) => if ds.length = n then callV (fin (T (env0 m (ds.map .val)))) ρ2 else .stuck
  | none => .stuck) := rfl
@[simp] theorem q_dCallB {n m : Nat} {T : En → SR} {i : Nat} {A : En → Res (List X)} {ρ : En} : dCallB n m T i A ρ = ((A ρ).bind fun xs ρ1 => match toVals ρ1 xs with
  | some (ds, ρ2) => match coAt ρ2 i with
    | some o => if ds.length + 1 = n then callB (fin (T (env0 m (.bor o :: ds.map .val)))) i ρ2 else .stuck
    | none => .stuck
  | none => .stuck) := rfl
@[simp] theorem q_dMeth {C : Addr} {f : Str} {n m : Nat} {T : En → SR} {A : En → Res X} {B : En → Res (List X)} {ρ : En} : dMeth C f n m T A B ρ = ((A ρ).bind fun a ρ1 => match toVal ρ1 a with
  | some (.ins C' ks es, ρ2) => if C' = C ∧ noF f ks = true then (B ρ2).bind fun xs ρ3 => match toVals ρ3 xs with
      | some (ds, ρ4) => if ds.length + 1 = n then callV (fin (T (env0 m ((D.ins C' ks es :: ds).map .val)))) ρ4 else .stuck
      | none => .stuck
    else .stuck
  | _ => .stuck) := rfl
@[simp] theorem q_dProp {C : Addr} {m : Nat} {T : En → SR} {A : En → Res X} {ρ : En} : dProp C m T A ρ = ((A ρ).bind fun a ρ1 => match toVal ρ1 a with
  | some (.ins C' ks es, ρ2) => if C' = C then callV (fin (T (env0 m [.val (D.ins C' ks es)]))) ρ2 else .stuck
  | _ => .stuck) := rfl
@[simp] theorem q_dMake {C : Addr} {n m : Nat} {T : En → SR} {A : En → Res (List X)} {ρ : En} : dMake C n m T A ρ = ((A ρ).bind fun xs ρ1 => match toVals ρ1 xs with
  | some (ds, ρ2) => if ds.length + 1 = n then makeV (fin (T (env0 m (.bor (.ins C [] []) :: ds.map .val)))) ρ2 else .stuck
  | none => .stuck) := rfl
@[simp] theorem q_dIsi {kt : Kit} {Cs : List Addr} {us : List Value} {A : En → Res X} {ρ : En} : dIsi kt Cs us A ρ = ((A ρ).bind fun a ρ1 => match deref ρ1 a with
  | some d => if d.tyOk Cs = true then lift ((anyK kt d.ty us).map fun b => X.val (.bl b)) ρ1 else .stuck
  | none => .stuck) := rfl
@[simp] theorem q_dStrO {C : Addr} {m : Nat} {T : En → SR} {A : En → Res X} {ρ : En} : dStrO C m T A ρ = ((A ρ).bind fun a ρ1 => match toVal ρ1 a with
  | some (.ins C' ks es, ρ2) => if C' = C then callP xStr (fin (T (env0 m [.val (D.ins C' ks es)]))) ρ2 else .stuck
  | _ => .stuck) := rfl
@[simp] theorem q_dLenO {C : Addr} {m : Nat} {T : En → SR} {A : En → Res X} {ρ : En} : dLenO C m T A ρ = ((A ρ).bind fun a ρ1 => match toVal ρ1 a with
  | some (.ins C' ks es, ρ2) => if C' = C then callP xLen (fin (T (env0 m [.val (D.ins C' ks es)]))) ρ2 else .stuck
  | _ => .stuck) := rfl
@[simp] theorem q_dEqO {p : X → Option X} {C : Addr} {m : Nat} {T : En → SR} {A B : En → Res X} {ρ : En} : dEqO p C m T A B ρ = ((A ρ).bind fun a ρ1 => (B ρ1).bind fun b ρ2 => match toVal ρ2 a.settle with
  | some (.ins C' ks es, ρ3) => match toVal ρ3 b.settle with
    | some (.ins C'' ks' es', ρ4) => if C' = C ∧ C'' = C then callP p (fin (T (env0 m [.val (D.ins C' ks es), .val (D.ins C'' ks' es')]))) ρ4 else .stuck
    | _ => .stuck
  | _ => .stuck) := rfl
@[simp] theorem q_dLc2 {S : En → Res (List D)} {vs vs1 : List Nat} {U : Tg} {T : En → Res Bool} {S1 : En → Res (List D)} {U1 : Tg} {T1 : En → Res Bool} {A : En → Res X} {ρ : En} : dLc2 S vs vs1 U T S1 U1 T1 A ρ = ((S ρ).bind fun ds ρ1 => if vs.all (freeAt ρ1) = true then
    match lc2L vs vs1 U T S1 U1 T1 A ds (wipeN ρ1 vs) [] with
    | .ok es ρ2 => .ok (.new (.lst es)) ρ2
    | _ => .stuck
  else .stuck) := rfl
@[simp] theorem q_dUn {f : D → Option X} {A : En → Res X} {ρ : En} : dUn f A ρ = ((A ρ).bind fun a ρ1 => match deref ρ1 a with
  | some d => lift (f d) ρ1
  | none => .stuck) := rfl
@[simp] theorem q_dLend {n m : Nat} {T : En → SR} {i : Nat} {A : En → Res (List X)} {ρ : En} : dLend n m T i A ρ = (if (coAt ρ i).isSome then dCallB n m T i A ρ else .stuck) := rfl
@[simp] theorem q_dCMeth {C : Addr} {n m : Nat} {T : En → SR} {B : En → Res (List X)} {ρ : En} : dCMeth C n m T B ρ = ((B ρ).bind fun xs ρ1 => match toVals ρ1 xs with
  | some (ds, ρ2) => if ds.length + 1 = n then callV (fin (T (env0 m ((D.cls C :: ds).map .val)))) ρ2 else .stuck
  | none => .stuck) := rfl
@[simp] theorem q_dMakeL {C : Addr} {i n m : Nat} {T : En → SR} {A : En → Res (List X)} {ρ : En} : dMakeL C i n m T A ρ = (match ρ[i]? with
  | some (.val (.cls C')) => if C' = C then dMake C n m T A ρ else .stuck
  | _ => .stuck) := rfl
@[simp] theorem q_dSeqI {A : En → Res X} {ρ : En} : dSeqI A ρ = ((A ρ).bind fun a ρ1 => match a with
  | .val d => lift d.items ρ1
  | .new o => lift o.d.items ρ1
  | .own i => match ρ1[i]? with
    | some (.val d) => lift d.items ρ1
    | _ => .stuck) := rfl
@[simp] theorem w_eq_i {i j : Int} : eqB (.int i) (.int j) = some (decide (i = j)) := rfl
@[simp] theorem w_eq_s {i j : Str} : eqB (.str i) (.str j) = some (decide (i = j)) := rfl
@[simp] theorem w_eq_b {i j : Bool} : eqB (.bl i) (.bl j) = some (decide (i = j)) := rfl
@[simp] theorem w_eq_n : eqB .non .non = some true := rfl
section
variable {d : D} {o : O}
@[simp] theorem w_free_v : (Slot.val d).free = true := rfl
@[simp] theorem w_free_n : Slot.none.free = true := rfl
@[simp] theorem w_free_o : (Slot.own o).free = true := rfl
@[simp] theorem w_free_b : (Slot.bor o).free = false := rfl
@[simp] theorem w_free_l : (Slot.lck o).free = false := rfl
@[simp] theorem w_dd_v : (Slot.val d).dd = some d := rfl
@[simp] theorem w_dd_o : (Slot.own o).dd = some o.d := rfl
@[simp] theorem w_dd_b : (Slot.bor o).dd = some o.d := rfl
@[simp] theorem w_dd_l : (Slot.lck o).dd = some o.d := rfl
@[simp] theorem w_co_o : (Slot.own o).co = some o := rfl
@[simp] theorem w_co_b : (Slot.bor o).co = some o := rfl
end
section
variable {α : Type} {ρ : En} {d : D} {o : O} {i : Nat} {x : X}
@[simp] theorem w_fin_nx : fin (.nx ρ) = .ok (.val .non) ρ := rfl
@[simp] theorem w_fin_v : fin (.rt (.val d) ρ) = .ok (.val d) ρ := rfl
@[simp] theorem w_fin_n : fin (.rt (.new o) ρ) = .ok (.new o) ρ := rfl
@[simp] theorem w_fin_o : fin (.rt (.own i) ρ) = (match ρ[i]? with
    | some (.val d) => .ok (.val d) ρ
    | some (.own o) => .ok (.new o) ρ
    | _ => .stuck) := rfl
@[simp] theorem w_set_v : (X.val d).settle = .val d := rfl
@[simp] theorem w_set_n : (X.new o).settle = .val o.d := rfl
@[simp] theorem w_set_o : (X.own i).settle = .own i := rfl
@[simp] theorem w_O_lst {ds : List D} : (O.lst ds).d = .lst ds := rfl
@[simp] theorem w_O_ins {C : Addr} {ks : List Str} {ds : List D} : (O.ins C ks ds).d = .ins C ks ds := rfl
@[simp] theorem w_der_v : deref ρ (.val d) = some d := rfl
@[simp] theorem w_der_n : deref ρ (.new o) = some o.d := rfl
@[simp] theorem w_der_o : deref ρ (.own i) = ρ[i]?.bind Slot.dd := rfl
@[simp] theorem w_tv_v : toVal ρ (.val d) = some (d, ρ) := rfl
@[simp] theorem w_tv_n : toVal ρ (.new o) = some (o.d, ρ) := rfl
@[simp] theorem w_tv_o : toVal ρ (.own i) = (match ρ[i]? with
    | some (.val d) => some (d, ρ)
    | some (.own o) => some (o.d, ρ.set i (.val o.d))
    | _ => none) := rfl
@[simp] theorem w_lift_s {a : α} : lift (some a) ρ = .ok a ρ := rfl
@[simp] theorem w_lift_n : lift (none : Option α) ρ = .stuck := rfl
@[simp] theorem w_callP {p : X → Option X} {ρ' : En} : callP p (.ok x ρ') ρ = lift (p x) ρ := rfl
@[simp] theorem w_make {ρ' : En} (h : ρ'[0]? = some (.bor o)) : makeV (.ok (.val .non) ρ') ρ = .ok (.new o) ρ := by
  simp only [makeV, h]
end
@[simp] theorem sl_eq : (sizeLine : Nat) = 16777216 := sizeLine_eq
/-- what a def hands back -/
@[simp] def resV : Rt → Option X
  | .ok x _ => some x
  | _ => none
/-- .. and what was lent -/
@[simp] def resB : Rt → Option (X × O)
  | .ok x ρ => match (ρ[0]? : Option Slot) with
    | some (.bor o) => some (x, o)
    | _ => none
  | _ => none
def Gives (m : Nat) (T : En → SR) (ds : List D) (x : X) : Prop := resV (fin (T (env0 m (ds.map .val)))) = some x
def GivesB (m : Nat) (T : En → SR) (o : O) (ds : List D) (x : X) (o' : O) : Prop := resB (fin (T (env0 m (.bor o :: ds.map .val)))) = some (x, o')
open Classical in
@[simp] theorem q_dLstRg {T : En → Res (Int × Int)} {ρ : En} : dLstRg T ρ = ((T ρ).bind fun p ρ1 => if RgOk p.1 p.2 then .ok (.new (.lst (rgD p.1 p.2))) ρ1 else .stuck) := by
  unfold dLstRg
  rfl
theorem Gives.elim {m : Nat} {T : En → SR} {ds : List D} {x : X} (h : Gives m T ds x) : ∃ ρ', fin (T (env0 m (ds.map .val))) = .ok x ρ' := by
  unfold Gives at h
  cases e : fin (T (env0 m (ds.map .val))) with
  | ok y ρ' =>
    rw [e] at h
    cases h
    exact ⟨ρ', rfl⟩
  | err y ρ' => rw [e] at h; cases h
  | stuck => rw [e] at h; cases h
theorem GivesB.elim {m : Nat} {T : En → SR} {ds : List D} {x : X} {o o' : O} (h : GivesB m T o ds x o') : ∃ ρ', fin (T (env0 m (.bor o :: ds.map .val))) = .ok x ρ' ∧ ρ'[0]? = some (.bor o') := by
  unfold GivesB at h
  cases e : fin (T (env0 m (.bor o :: ds.map .val))) with
  | ok y ρ' =>
    rw [e] at h
    simp only [resB] at h
    split at h
    · rename_i u e2
      cases h
      exact ⟨ρ', rfl, e2⟩
    · cases h
  | err y ρ' => rw [e] at h; cases h
  | stuck => rw [e] at h; cases h
@[simp] theorem callB_ok {x : X} {ρ' ρ : En} {i : Nat} {o : O} (h : ρ'[0]? = some (.bor o)) : callB (.ok x ρ') i ρ = .ok x (reAt ρ i o) := by
  simp only [callB, h]
@[simp] theorem callV_ok {x : X} {ρ' ρ : En} : callV (.ok x ρ') ρ = .ok x ρ := rfl
@[simp] def stepL (U : Tg) (B : En → SR) (d : D) (ρ : En) : SR := match U d ρ with
  | none => .stuck
  | some ρ1 => B ρ1
theorem forL_inv {U : Tg} {B : En → SR} (W : Nat → En → Prop) {ds : List D} (h : ∀ i (hi : i < ds.length) ρ, W i ρ → ∃ ρ2, (stepL U B ds[i] ρ = .nx ρ2 ∨ stepL U B ds[i] ρ = .ct ρ2) ∧ W (i + 1) ρ2) {ρ : En} (h0 : W 0 ρ) : ∃ ρ', forL U B ds ρ = .nx ρ' ∧ W ds.length ρ' := by
  induction ds generalizing W ρ with
  | nil => exact ⟨ρ, rfl, h0⟩
  | cons d ds ih =>
    obtain ⟨ρ2, e2, w2⟩ := h 0 (by simp) ρ h0
    obtain ⟨ρ', e3, w3⟩ := ih (fun i => W (i + 1)) (fun i hi ρ hw => by
      obtain ⟨r2, q2, q3⟩ := h (i + 1) (by simpa using hi) ρ hw
      exact ⟨r2, by simpa using q2, q3⟩) w2
    refine ⟨ρ', ?_, w3⟩
    unfold forL
    have e2 : stepL U B d ρ = .nx ρ2 ∨ stepL U B d ρ = .ct ρ2 := e2
    unfold stepL at e2
    cases e1 : U d ρ with
    | none => rw [e1] at e2; rcases e2 with e2 | e2 <;> cases e2
    | some ρ1 =>
      rw [e1] at e2
      rcases e2 with e2 | e2 <;> (simp only [e2]; exact e3)
/-- a loop over range(n) -/
theorem forR_inv {U : Tg} {B : En → SR} {n : Nat} (W : Nat → En → Prop) (h : ∀ i, i < n → ∀ ρ, W i ρ → ∃ ρ2, (stepL U B (.int i) ρ = .nx ρ2 ∨ stepL U B (.int i) ρ = .ct ρ2) ∧ W (i + 1) ρ2) {ρ : En} (h0 : W 0 ρ) : ∃ ρ', forL U B ((List.range n).map fun i => D.int (i : Nat)) ρ = .nx ρ' ∧ W n ρ' := by
  obtain ⟨ρ', e, w⟩ := forL_inv (U := U) (B := B) (ds := (List.range n).map fun i => D.int (i : Nat)) W (fun i hi ρ hw => by
    simp only [List.length_map, List.length_range] at hi
    simp only [List.getElem_map, List.getElem_range]
    exact h i hi ρ hw) h0
  refine ⟨ρ', e, ?_⟩
  simpa using w
/-- the state of the draws -/
def box (b : Int × Int) : O := .lst [.int b.1, .int b.2]
theorem choose_gives {c : Cl} (b : Int × Int) {m : Int} (hm : 0 < m) (hm2 : m < 1073741824) : ∃ r b', GivesB 4 (D__law_choose c) (box b) [.int m] (.val (.int r)) (box b') ∧ 0 ≤ r ∧ r < m := by
  obtain ⟨x, y⟩ := b
  by_cases hx : 0 < x
  · refine ⟨x % m, (x / m, y), ?_, Int.emod_nonneg _ (by omega), Int.emod_lt_of_pos _ hm⟩
    simp [GivesB, D__law_choose, atI, ixN, hx, CDiv, hm, hm2, box]
  · refine ⟨((y * 40014 + 71) % 2147483563 * 2147483647 + (((y * 40014 + 71) % 2147483563 * 40692 + 4603) % 2147483629 + 1)) / 8191 % m, (x, ((y * 40014 + 71) % 2147483563 * 40692 + 4603) % 2147483629 + 1), ?_, Int.emod_nonneg _ (by omega : m ≠ 0), Int.emod_lt_of_pos _ hm⟩
    simp [GivesB, D__law_choose, atI, ixN, hx, CDiv, CMul, hm, hm2, box]
theorem atI_get {α : Type} {xs : List α} {i : Int} (h : 0 ≤ i) (h2 : i < xs.length) : ∃ x, atI xs i = some x ∧ x ∈ xs := by
  have hl : i.toNat < xs.length := by omega
  refine ⟨xs[i.toNat], ?_, List.getElem_mem hl⟩
  simp [atI, ixN, h, h2, hl]
theorem one_of_gives {c : Cl} (b : Int × Int) {ds : List D} (h0 : ds ≠ []) (h1 : ds.length ≤ 1000) : ∃ d b', GivesB 2 (D__law_one_of c) (box b) [.lst ds] (.val d) (box b') ∧ d ∈ ds := by
  have hp : 0 < ds.length := List.length_pos_iff.mpr h0
  obtain ⟨r, b', h, hr, hr2⟩ := choose_gives (c := c) b (m := (ds.length : Int)) (by omega) (by omega)
  obtain ⟨d, hd, hm⟩ := atI_get (xs := ds) hr hr2
  obtain ⟨ρ', e1, e2⟩ := h.elim
  simp at e1
  exact ⟨d, b', by simp [GivesB, D__law_one_of, e1, e2, hd], hm⟩
end DL
set_option linter.all false
set_option maxRecDepth 100000
set_option maxHeartbeats 1000000
namespace DL
open PySem PySem.Spec PyProof.Rows L2 DD
theorem atI_ints {ns : List Int} {k : Nat} (h : k < ns.length) : atI (ns.map D.int) (k : Int) = some (.int ns[k]) := by
  have h2 : (k : Int) < ns.length := by omega
  simp [atI, ixN, h2, h]
theorem seed_gives {c : Cl} (ns : List Int) (k : Nat) : ∃ b, Gives 3 (D__law_seed c) [.scr (ns.map D.int), .int k] (.new (box b)) := by
  by_cases h1 : k < ns.length
  · have h1' : (k : Int) < ns.length := by omega
    have e := atI_ints h1
    by_cases h2 : (1000000000000000000 : Int) ≤ (if ns[k] < 0 then -ns[k] else ns[k])
    · simp [Gives, D__law_seed, CMul, CPow, h1', e, box, h2]
    · simp [Gives, D__law_seed, CMul, CPow, h1', e, box, h2]
  · have h1' : ¬ (k : Int) < ns.length := by omega
    by_cases h0 : 0 < ns.length
    · have hm : k % ns.length < ns.length := Nat.mod_lt _ h0
      have e := atI_ints (ns := ns) hm
      rw [Int.natCast_emod] at e
      by_cases h2 : (1000000000000000000 : Int) ≤ 8831 * (k : Int) + 101 + (if ns[k % ns.length] < 0 then -ns[k % ns.length] else ns[k % ns.length]) % 2147483629 * 40093
      · simp [Gives, D__law_seed, CMul, CPow, h1, h0, e, box, h2]
      · simp [Gives, D__law_seed, CMul, CPow, h1, h0, e, box, h2]
    · by_cases h2 : (1000000000000000000 : Int) ≤ 8831 * (k : Int) + 101
      · simp [Gives, D__law_seed, CMul, CPow, h1, h0, box, h2]
      · simp [Gives, D__law_seed, CMul, CPow, h1, h0, box, h2]
/-- a meeting -/
abbrev Mt := Int × Int × Bool
def mtD (m : Mt) : D := .tup [.int m.1, .int m.2.1, .bl m.2.2]
/-- meetings in their order, from a tick on -/
def Meets : Int → List Mt → Prop
  | _, [] => True
  | a, m :: ms => a ≤ m.1 ∧ m.1 < m.2.1 ∧ Meets m.2.1 ms
def endOf : Int → List Mt → Int
  | a, [] => a
  | _, m :: ms => endOf m.2.1 ms
theorem Meets.snoc {m : Mt} : ∀ {a : Int} {ms : List Mt}, Meets a ms → endOf a ms ≤ m.1 → m.1 < m.2.1 → Meets a (ms ++ [m]) ∧ endOf a (ms ++ [m]) = m.2.1
  | _, [], _, h1, h2 => ⟨⟨h1, h2, trivial⟩, rfl⟩
  | _, x :: ms, h, h1, h2 => by
    obtain ⟨p, q⟩ := Meets.snoc (a := x.2.1) h.2.2 h1 h2
    exact ⟨⟨h.1, h.2.1, p⟩, q⟩
theorem mem_int {xs : List Int} {d : D} (h : d ∈ xs.map D.int) : ∃ i ∈ xs, d = .int i := by
  obtain ⟨i, hi, e⟩ := List.mem_map.mp h
  exact ⟨i, hi, e.symm⟩
theorem day_gives {c : Cl} (b : Int × Int) {top : Int} {s : Bool} (h1 : 1 ≤ top) (h2 : top ≤ 1000) : ∃ (n : Int) (ms : List Mt) (b' : Int × Int), GivesB 9 (D__law_day c) (box b) [.int top, .bl s] (.val (.tup [.int n, .lst (ms.map mtD)])) (box b') ∧ 1 ≤ n ∧ n ≤ top ∧ Meets 0 ms ∧ endOf 0 ms ≤ n ∧ ms.length ≤ 8 := by
  obtain ⟨r, b1, g1, r0, r1⟩ := choose_gives (c := c) b (m := top) (by omega) (by omega)
  obtain ⟨ρ1, e1, e1'⟩ := g1.elim
  simp at e1
  have W := forR_inv (U := uName 3) (B := D__law_day_b1 c) (n := 8) (fun i ρ => ∃ (ms : List Mt) (b : Int × Int) (s3 s7 s8 : Slot), ρ = [.bor (box b), .val (.int top), .val (.bl s), s3, .val (.int (1 + r)), .own (.lst (ms.map mtD)), .val (.int (endOf 0 ms)), s7, s8] ∧ s3.free = true ∧ s7.free = true ∧ s8.free = true ∧ Meets 0 ms ∧ 0 ≤ endOf 0 ms ∧ endOf 0 ms ≤ 1 + r ∧ ms.length ≤ i) ?_ (ρ := [.bor (box b1), .val (.int top), .val (.bl s), .none, .val (.int (1 + r)), .own (.lst []), .val (.int 0), .none, .none]) ⟨[], b1, .none, .none, .none, rfl, rfl, rfl, rfl, trivial, Int.le_refl _, by show (0 : Int) ≤ 1 + r; omega, Nat.le_refl _⟩
  · obtain ⟨ρ', e2, ms, b', s3, s7, s8, rfl, _, _, _, hm, h0, hle, hl⟩ := W
    refine ⟨1 + r, ms, b', ?_, by omega, by omega, hm, hle, hl⟩
    simp [GivesB, D__law_day, e1, e1', e2]
  · rintro i hi ρ ⟨ms, b, s3, s7, s8, rfl, f3, f7, f8, hm, h0, hle, hl⟩
    obtain ⟨d, b2, g2, hd⟩ := one_of_gives (c := c) b (ds := [0, 0, 1, 1, 2, 3, 5].map D.int) (by simp) (by simp)
    obtain ⟨x, hx, rfl⟩ := mem_int hd
    obtain ⟨d, b3, g3, hd⟩ := one_of_gives (c := c) b2 (ds := [1, 1, 2, 3, 4, 9].map D.int) (by simp) (by simp)
    obtain ⟨y, hy, rfl⟩ := mem_int hd
    obtain ⟨z, b4, g4, z0, z1⟩ := choose_gives (c := c) b3 (m := 3) (by omega) (by omega)
    obtain ⟨ρ2, p2, q2⟩ := g2.elim
    obtain ⟨ρ3, p3, q3⟩ := g3.elim
    obtain ⟨ρ4, p4, q4⟩ := g4.elim
    simp at p2 p3 p4
    have hx0 : 0 ≤ x := by simp at hx; omega
    have hy0 : 1 ≤ y := by simp at hy; omega
    have hsz : ms.length < 16777216 := by omega
    have sn : ∀ q, Meets 0 (ms ++ [(endOf 0 ms + x, endOf 0 ms + x + y, q)]) ∧ endOf 0 (ms ++ [(endOf 0 ms + x, endOf 0 ms + x + y, q)]) = endOf 0 ms + x + y := fun q => hm.snoc (by show endOf 0 ms ≤ endOf 0 ms + x; omega) (by show endOf 0 ms + x < endOf 0 ms + x + y; omega)
    by_cases hc : endOf 0 ms + x + y ≤ 1 + r
    · have fin_ : ∀ q, 0 ≤ endOf 0 (ms ++ [(endOf 0 ms + x, endOf 0 ms + x + y, q)]) ∧ endOf 0 (ms ++ [(endOf 0 ms + x, endOf 0 ms + x + y, q)]) ≤ 1 + r ∧ (ms ++ [(endOf 0 ms + x, endOf 0 ms + x + y, q)]).length ≤ i + 1 := fun q => by
        rw [(sn q).2]
        refine ⟨by omega, hc, ?_⟩
        simp
        exact hl
      cases s
      · refine ⟨_, .inl (by simp [D__law_day_b1, p2, q2, p3, q3, f3, f7, f8, hc, hsz] <;> rfl), ms ++ [(endOf 0 ms + x, endOf 0 ms + x + y, false)], b3, .val (.int i), .val (.int (endOf 0 ms + x)), .val (.int (endOf 0 ms + x + y)), ?_, rfl, rfl, rfl, (sn false).1, fin_ false⟩
        rw [(sn false).2]
        simp [mtD]
      · refine ⟨_, .inl (by simp [D__law_day_b1, p2, q2, p3, q3, p4, q4, f3, f7, f8, hc, hsz] <;> rfl), ms ++ [(endOf 0 ms + x, endOf 0 ms + x + y, decide (z = 0))], b4, .val (.int i), .val (.int (endOf 0 ms + x)), .val (.int (endOf 0 ms + x + y)), ?_, rfl, rfl, rfl, (sn _).1, fin_ _⟩
        rw [(sn _).2]
        simp [mtD]
    · refine ⟨_, .inl (by simp [D__law_day_b1, p2, q2, p3, q3, f3, f7, f8, hc] <;> rfl), ms, b3, .val (.int i), .val (.int (endOf 0 ms + x)), .val (.int (endOf 0 ms + x + y)), rfl, rfl, rfl, rfl, hm, h0, hle, by omega⟩
end DL
set_option linter.all false
set_option maxRecDepth 100000
set_option maxHeartbeats 1000000
namespace DL
open PySem PySem.Spec PyProof.Rows L2 DD
@[simp] theorem k_ii : kitB "int" "int" = some true := by decide +kernel
@[simp] theorem k_ib : kitB "int" "bool" = some false := by decide +kernel
@[simp] theorem k_bb : kitB "bool" "bool" = some true := by decide +kernel
@[simp] theorem k_ll : kitB "list" "list" = some true := by decide +kernel
@[simp] theorem k_tl : kitB "tuple" "list" = some false := by decide +kernel
@[simp] theorem k_tt : kitB "tuple" "tuple" = some true := by decide +kernel
@[simp] theorem k_lt : kitB "list" "tuple" = some false := by decide +kernel
@[simp] theorem kd_ty {Cs : List Addr} {a b : String} : kitD Cs (.type a) (.type b) = kitB a b := rfl
@[simp] theorem kd_own {Cs : List Addr} {a : Addr} : kitD Cs (.ref a) (.ref a) = some true := by simp [kitD]
@[simp] theorem is_integer_v {c : Cl} {i : Int} : Gives 1 (D_is_integer c) [.int i] (.val (.bl true)) := by
  simp [Gives, D_is_integer, anyK]
theorem is_number_v {c : Cl} {i : Int} : Gives 1 (D_is_number c) [.int i] (.val (.bl (decide (0 ≤ i)))) := by
  obtain ⟨_, p⟩ := (is_integer_v (c := c) (i := i)).elim
  simp at p
  simp [Gives, D_is_number, p]
theorem is_positive_v {c : Cl} {i : Int} : Gives 1 (D_is_positive c) [.int i] (.val (.bl (decide (1 ≤ i)))) := by
  obtain ⟨_, p⟩ := (is_integer_v (c := c) (i := i)).elim
  simp at p
  simp [Gives, D_is_positive, p]
theorem is_sequence_l {c : Cl} {ds : List D} : Gives 1 (D_is_sequence c) [.lst ds] (.val (.bl true)) := by
  simp [Gives, D_is_sequence, anyK]
theorem is_sequence_t {c : Cl} {ds : List D} : Gives 1 (D_is_sequence c) [.tup ds] (.val (.bl true)) := by
  simp [Gives, D_is_sequence, anyK]
theorem is_meeting_v {c : Cl} {m : Mt} (h0 : 0 ≤ m.1) (h1 : m.1 < m.2.1) : Gives 4 (D__is_meeting c) [mtD m] (.val (.bl true)) := by
  obtain ⟨_, p⟩ := (is_number_v (c := c) (i := m.1)).elim
  obtain ⟨_, q⟩ := (is_number_v (c := c) (i := m.2.1)).elim
  have h2 : 0 ≤ m.2.1 := by omega
  simp at p q
  simp [Gives, D__is_meeting, mtD, p, q, h0, h1, h2, anyK]
theorem Meets.at : ∀ {a : Int} {ms : List Mt} {i : Nat}, Meets a ms → (hi : i < ms.length) → endOf a (ms.take i) ≤ ms[i].1 ∧ ms[i].1 < ms[i].2.1 ∧ endOf a (ms.take (i + 1)) = ms[i].2.1 ∧ a ≤ endOf a (ms.take i)
  | _, [], i, _, hi => by simp at hi
  | a, m :: ms, 0, h, _ => ⟨h.1, h.2.1, rfl, Int.le_refl _⟩
  | a, m :: ms, i + 1, h, hi => by
    obtain ⟨p, q, r, s⟩ := Meets.at (a := m.2.1) (ms := ms) (i := i) h.2.2 (by simpa using hi)
    exact ⟨p, q, r, by have := h.1; have := h.2.1; show a ≤ endOf m.2.1 (ms.take i); omega⟩
theorem endOf_le : ∀ {a : Int} {ms : List Mt} {i : Nat}, Meets a ms → endOf a (ms.take i) ≤ endOf a ms
  | _, [], i, _ => by simp
  | a, m :: ms, 0, h => by
    have : ∀ {a : Int} {ms : List Mt}, Meets a ms → a ≤ endOf a ms := by
      intro a ms
      induction ms generalizing a with
      | nil => intro _; exact Int.le_refl _
      | cons m ms ih => intro h; have := ih h.2.2; have := h.1; have := h.2.1; show a ≤ endOf m.2.1 ms; omega
    exact this h
  | a, m :: ms, i + 1, h => endOf_le (a := m.2.1) (ms := ms) (i := i) h.2.2
theorem are_meetings_v {c : Cl} {n : Int} {ms : List Mt} (h : Meets 0 ms) (hn : endOf 0 ms ≤ n) {d : D} (hd : d = .lst (ms.map mtD) ∨ d = .tup (ms.map mtD)) : Gives 4 (D__are_meetings c) [d, .int n] (.val (.bl true)) := by
  have hseq : Gives 1 (D_is_sequence c) [d] (.val (.bl true)) := by
    rcases hd with rfl | rfl
    · exact is_sequence_l
    · exact is_sequence_t
  obtain ⟨_, p⟩ := hseq.elim
  simp at p
  have W := forL_inv (U := uName 3) (B := D__are_meetings_b1 c) (ds := ms.map mtD) (fun i ρ => ∃ s3 : Slot, ρ = [.val d, .val (.int n), .val (.int (endOf 0 (ms.take i))), s3] ∧ s3.free = true) (fun i hi ρ ⟨s3, e, f3⟩ => by
    subst e
    simp at hi
    obtain ⟨g1, g2, g3, g4⟩ := Meets.at h hi
    have g5 := endOf_le (i := i + 1) h
    obtain ⟨_, q⟩ := (is_meeting_v (c := c) (m := ms[i]) (by omega) g2).elim
    simp [mtD] at q
    have g6 : ¬ ms[i].1 < endOf 0 (ms.take i) := by omega
    have g7 : ¬ n < ms[i].2.1 := by omega
    refine ⟨_, .inl (by simp [D__are_meetings_b1, f3, mtD, q, atI, ixN, g6, g7] <;> rfl), .val (mtD ms[i]), ?_, rfl⟩
    rw [g3]
    simp [mtD]) (ρ := [.val d, .val (.int n), .val (.int 0), .none]) ⟨.none, rfl, rfl⟩
  obtain ⟨ρ', e, s3, rfl, _⟩ := W
  rcases hd with rfl | rfl
  · simp [Gives, D__are_meetings, p, e]
  · simp [Gives, D__are_meetings, p, e]
end DL
set_option linter.all false
namespace DL
open PySem
@[simp] theorem ne_step_gap : (Str.ofString "step" = Str.ofString "gap") = False := eq_false (by decide +kernel)
@[simp] theorem ne_step_least : (Str.ofString "step" = Str.ofString "least") = False := eq_false (by decide +kernel)
@[simp] theorem ne_step_private : (Str.ofString "step" = Str.ofString "private") = False := eq_false (by decide +kernel)
@[simp] theorem ne_step_hours : (Str.ofString "step" = Str.ofString "hours") = False := eq_false (by decide +kernel)
@[simp] theorem ne_step_length : (Str.ofString "step" = Str.ofString "length") = False := eq_false (by decide +kernel)
@[simp] theorem ne_step_meetings : (Str.ofString "step" = Str.ofString "meetings") = False := eq_false (by decide +kernel)
@[simp] theorem ne_step_shortest : (Str.ofString "step" = Str.ofString "shortest") = False := eq_false (by decide +kernel)
@[simp] theorem ne_step_most : (Str.ofString "step" = Str.ofString "most") = False := eq_false (by decide +kernel)
@[simp] theorem ne_step_known : (Str.ofString "step" = Str.ofString "known") = False := eq_false (by decide +kernel)
@[simp] theorem ne_step_busy : (Str.ofString "step" = Str.ofString "busy") = False := eq_false (by decide +kernel)
@[simp] theorem ne_step_none : (Str.ofString "step" = Str.ofString "none") = False := eq_false (by decide +kernel)
@[simp] theorem ne_step_apart : (Str.ofString "step" = Str.ofString "apart") = False := eq_false (by decide +kernel)
@[simp] theorem ne_step_one : (Str.ofString "step" = Str.ofString "one") = False := eq_false (by decide +kernel)
@[simp] theorem ne_gap_step : (Str.ofString "gap" = Str.ofString "step") = False := eq_false (by decide +kernel)
@[simp] theorem ne_gap_least : (Str.ofString "gap" = Str.ofString "least") = False := eq_false (by decide +kernel)
@[simp] theorem ne_gap_private : (Str.ofString "gap" = Str.ofString "private") = False := eq_false (by decide +kernel)
@[simp] theorem ne_gap_hours : (Str.ofString "gap" = Str.ofString "hours") = False := eq_false (by decide +kernel)
@[simp] theorem ne_gap_length : (Str.ofString "gap" = Str.ofString "length") = False := eq_false (by decide +kernel)
@[simp] theorem ne_gap_meetings : (Str.ofString "gap" = Str.ofString "meetings") = False := eq_false (by decide +kernel)
@[simp] theorem ne_gap_shortest : (Str.ofString "gap" = Str.ofString "shortest") = False := eq_false (by decide +kernel)
@[simp] theorem ne_gap_most : (Str.ofString "gap" = Str.ofString "most") = False := eq_false (by decide +kernel)
@[simp] theorem ne_gap_known : (Str.ofString "gap" = Str.ofString "known") = False := eq_false (by decide +kernel)
@[simp] theorem ne_gap_busy : (Str.ofString "gap" = Str.ofString "busy") = False := eq_false (by decide +kernel)
@[simp] theorem ne_gap_none : (Str.ofString "gap" = Str.ofString "none") = False := eq_false (by decide +kernel)
@[simp] theorem ne_gap_apart : (Str.ofString "gap" = Str.ofString "apart") = False := eq_false (by decide +kernel)
@[simp] theorem ne_gap_one : (Str.ofString "gap" = Str.ofString "one") = False := eq_false (by decide +kernel)
@[simp] theorem ne_least_step : (Str.ofString "least" = Str.ofString "step") = False := eq_false (by decide +kernel)
@[simp] theorem ne_least_gap : (Str.ofString "least" = Str.ofString "gap") = False := eq_false (by decide +kernel)
@[simp] theorem ne_least_private : (Str.ofString "least" = Str.ofString "private") = False := eq_false (by decide +kernel)
@[simp] theorem ne_least_hours : (Str.ofString "least" = Str.ofString "hours") = False := eq_false (by decide +kernel)
@[simp] theorem ne_least_length : (Str.ofString "least" = Str.ofString "length") = False := eq_false (by decide +kernel)
@[simp] theorem ne_least_meetings : (Str.ofString "least" = Str.ofString "meetings") = False := eq_false (by decide +kernel)
@[simp] theorem ne_least_shortest : (Str.ofString "least" = Str.ofString "shortest") = False := eq_false (by decide +kernel)
@[simp] theorem ne_least_most : (Str.ofString "least" = Str.ofString "most") = False := eq_false (by decide +kernel)
@[simp] theorem ne_least_known : (Str.ofString "least" = Str.ofString "known") = False := eq_false (by decide +kernel)
@[simp] theorem ne_least_busy : (Str.ofString "least" = Str.ofString "busy") = False := eq_false (by decide +kernel)
@[simp] theorem ne_least_none : (Str.ofString "least" = Str.ofString "none") = False := eq_false (by decide +kernel)
@[simp] theorem ne_least_apart : (Str.ofString "least" = Str.ofString "apart") = False := eq_false (by decide +kernel)
@[simp] theorem ne_least_one : (Str.ofString "least" = Str.ofString "one") = False := eq_false (by decide +kernel)
@[simp] theorem ne_private_step : (Str.ofString "private" = Str.ofString "step") = False := eq_false (by decide +kernel)
@[simp] theorem ne_private_gap : (Str.ofString "private" = Str.ofString "gap") = False := eq_false (by decide +kernel)
@[simp] theorem ne_private_least : (Str.ofString "private" = Str.ofString "least") = False := eq_false (by decide +kernel)
@[simp] theorem ne_private_hours : (Str.ofString "private" = Str.ofString "hours") = False := eq_false (by decide +kernel)
@[simp] theorem ne_private_length : (Str.ofString "private" = Str.ofString "length") = False := eq_false (by decide +kernel)
@[simp] theorem ne_private_meetings : (Str.ofString "private" = Str.ofString "meetings") = False := eq_false (by decide +kernel)
@[simp] theorem ne_private_shortest : (Str.ofString "private" = Str.ofString "shortest") = False := eq_false (by decide +kernel)
@[simp] theorem ne_private_most : (Str.ofString "private" = Str.ofString "most") = False := eq_false (by decide +kernel)
@[simp] theorem ne_private_known : (Str.ofString "private" = Str.ofString "known") = False := eq_false (by decide +kernel)
@[simp] theorem ne_private_busy : (Str.ofString "private" = Str.ofString "busy") = False := eq_false (by decide +kernel)
@[simp] theorem ne_private_none : (Str.ofString "private" = Str.ofString "none") = False := eq_false (by decide +kernel)
@[simp] theorem ne_private_apart : (Str.ofString "private" = Str.ofString "apart") = False := eq_false (by decide +kernel)
@[simp] theorem ne_private_one : (Str.ofString "private" = Str.ofString "one") = False := eq_false (by decide +kernel)
@[simp] theorem ne_hours_step : (Str.ofString "hours" = Str.ofString "step") = False := eq_false (by decide +kernel)
@[simp] theorem ne_hours_gap : (Str.ofString "hours" = Str.ofString "gap") = False := eq_false (by decide +kernel)
@[simp] theorem ne_hours_least : (Str.ofString "hours" = Str.ofString "least") = False := eq_false (by decide +kernel)
@[simp] theorem ne_hours_private : (Str.ofString "hours" = Str.ofString "private") = False := eq_false (by decide +kernel)
@[simp] theorem ne_hours_length : (Str.ofString "hours" = Str.ofString "length") = False := eq_false (by decide +kernel)
@[simp] theorem ne_hours_meetings : (Str.ofString "hours" = Str.ofString "meetings") = False := eq_false (by decide +kernel)
@[simp] theorem ne_hours_shortest : (Str.ofString "hours" = Str.ofString "shortest") = False := eq_false (by decide +kernel)
@[simp] theorem ne_hours_most : (Str.ofString "hours" = Str.ofString "most") = False := eq_false (by decide +kernel)
@[simp] theorem ne_hours_known : (Str.ofString "hours" = Str.ofString "known") = False := eq_false (by decide +kernel)
@[simp] theorem ne_hours_busy : (Str.ofString "hours" = Str.ofString "busy") = False := eq_false (by decide +kernel)
@[simp] theorem ne_hours_none : (Str.ofString "hours" = Str.ofString "none") = False := eq_false (by decide +kernel)
@[simp] theorem ne_hours_apart : (Str.ofString "hours" = Str.ofString "apart") = False := eq_false (by decide +kernel)
@[simp] theorem ne_hours_one : (Str.ofString "hours" = Str.ofString "one") = False := eq_false (by decide +kernel)
@[simp] theorem ne_length_step : (Str.ofString "length" = Str.ofString "step") = False := eq_false (by decide +kernel)
@[simp] theorem ne_length_gap : (Str.ofString "length" = Str.ofString "gap") = False := eq_false (by decide +kernel)
@[simp] theorem ne_length_least : (Str.ofString "length" = Str.ofString "least") = False := eq_false (by decide +kernel)
@[simp] theorem ne_length_private : (Str.ofString "length" = Str.ofString "private") = False := eq_false (by decide +kernel)
@[simp] theorem ne_length_hours : (Str.ofString "length" = Str.ofString "hours") = False := eq_false (by decide +kernel)
@[simp] theorem ne_length_meetings : (Str.ofString "length" = Str.ofString "meetings") = False := eq_false (by decide +kernel)
@[simp] theorem ne_length_shortest : (Str.ofString "length" = Str.ofString "shortest") = False := eq_false (by decide +kernel)
@[simp] theorem ne_length_most : (Str.ofString "length" = Str.ofString "most") = False := eq_false (by decide +kernel)
@[simp] theorem ne_length_known : (Str.ofString "length" = Str.ofString "known") = False := eq_false (by decide +kernel)
@[simp] theorem ne_length_busy : (Str.ofString "length" = Str.ofString "busy") = False := eq_false (by decide +kernel)
@[simp] theorem ne_length_none : (Str.ofString "length" = Str.ofString "none") = False := eq_false (by decide +kernel)
@[simp] theorem ne_length_apart : (Str.ofString "length" = Str.ofString "apart") = False := eq_false (by decide +kernel)
@[simp] theorem ne_length_one : (Str.ofString "length" = Str.ofString "one") = False := eq_false (by decide +kernel)
@[simp] theorem ne_meetings_step : (Str.ofString "meetings" = Str.ofString "step") = False := eq_false (by decide +kernel)
@[simp] theorem ne_meetings_gap : (Str.ofString "meetings" = Str.ofString "gap") = False := eq_false (by decide +kernel)
@[simp] theorem ne_meetings_least : (Str.ofString "meetings" = Str.ofString "least") = False := eq_false (by decide +kernel)
@[simp] theorem ne_meetings_private : (Str.ofString "meetings" = Str.ofString "private") = False := eq_false (by decide +kernel)
@[simp] theorem ne_meetings_hours : (Str.ofString "meetings" = Str.ofString "hours") = False := eq_false (by decide +kernel)
@[simp] theorem ne_meetings_length : (Str.ofString "meetings" = Str.ofString "length") = False := eq_false (by decide +kernel)
@[simp] theorem ne_meetings_shortest : (Str.ofString "meetings" = Str.ofString "shortest") = False := eq_false (by decide +kernel)
@[simp] theorem ne_meetings_most : (Str.ofString "meetings" = Str.ofString "most") = False := eq_false (by decide +kernel)
@[simp] theorem ne_meetings_known : (Str.ofString "meetings" = Str.ofString "known") = False := eq_false (by decide +kernel)
@[simp] theorem ne_meetings_busy : (Str.ofString "meetings" = Str.ofString "busy") = False := eq_false (by decide +kernel)
@[simp] theorem ne_meetings_none : (Str.ofString "meetings" = Str.ofString "none") = False := eq_false (by decide +kernel)
@[simp] theorem ne_meetings_apart : (Str.ofString "meetings" = Str.ofString "apart") = False := eq_false (by decide +kernel)
@[simp] theorem ne_meetings_one : (Str.ofString "meetings" = Str.ofString "one") = False := eq_false (by decide +kernel)
@[simp] theorem ne_shortest_step : (Str.ofString "shortest" = Str.ofString "step") = False := eq_false (by decide +kernel)
@[simp] theorem ne_shortest_gap : (Str.ofString "shortest" = Str.ofString "gap") = False := eq_false (by decide +kernel)
@[simp] theorem ne_shortest_least : (Str.ofString "shortest" = Str.ofString "least") = False := eq_false (by decide +kernel)
@[simp] theorem ne_shortest_private : (Str.ofString "shortest" = Str.ofString "private") = False := eq_false (by decide +kernel)
@[simp] theorem ne_shortest_hours : (Str.ofString "shortest" = Str.ofString "hours") = False := eq_false (by decide +kernel)
@[simp] theorem ne_shortest_length : (Str.ofString "shortest" = Str.ofString "length") = False := eq_false (by decide +kernel)
@[simp] theorem ne_shortest_meetings : (Str.ofString "shortest" = Str.ofString "meetings") = False := eq_false (by decide +kernel)
@[simp] theorem ne_shortest_most : (Str.ofString "shortest" = Str.ofString "most") = False := eq_false (by decide +kernel)
@[simp] theorem ne_shortest_known : (Str.ofString "shortest" = Str.ofString "known") = False := eq_false (by decide +kernel)
@[simp] theorem ne_shortest_busy : (Str.ofString "shortest" = Str.ofString "busy") = False := eq_false (by decide +kernel)
@[simp] theorem ne_shortest_none : (Str.ofString "shortest" = Str.ofString "none") = False := eq_false (by decide +kernel)
@[simp] theorem ne_shortest_apart : (Str.ofString "shortest" = Str.ofString "apart") = False := eq_false (by decide +kernel)
@[simp] theorem ne_shortest_one : (Str.ofString "shortest" = Str.ofString "one") = False := eq_false (by decide +kernel)
@[simp] theorem ne_most_step : (Str.ofString "most" = Str.ofString "step") = False := eq_false (by decide +kernel)
@[simp] theorem ne_most_gap : (Str.ofString "most" = Str.ofString "gap") = False := eq_false (by decide +kernel)
@[simp] theorem ne_most_least : (Str.ofString "most" = Str.ofString "least") = False := eq_false (by decide +kernel)
@[simp] theorem ne_most_private : (Str.ofString "most" = Str.ofString "private") = False := eq_false (by decide +kernel)
@[simp] theorem ne_most_hours : (Str.ofString "most" = Str.ofString "hours") = False := eq_false (by decide +kernel)
@[simp] theorem ne_most_length : (Str.ofString "most" = Str.ofString "length") = False := eq_false (by decide +kernel)
@[simp] theorem ne_most_meetings : (Str.ofString "most" = Str.ofString "meetings") = False := eq_false (by decide +kernel)
@[simp] theorem ne_most_shortest : (Str.ofString "most" = Str.ofString "shortest") = False := eq_false (by decide +kernel)
@[simp] theorem ne_most_known : (Str.ofString "most" = Str.ofString "known") = False := eq_false (by decide +kernel)
@[simp] theorem ne_most_busy : (Str.ofString "most" = Str.ofString "busy") = False := eq_false (by decide +kernel)
@[simp] theorem ne_most_none : (Str.ofString "most" = Str.ofString "none") = False := eq_false (by decide +kernel)
@[simp] theorem ne_most_apart : (Str.ofString "most" = Str.ofString "apart") = False := eq_false (by decide +kernel)
@[simp] theorem ne_most_one : (Str.ofString "most" = Str.ofString "one") = False := eq_false (by decide +kernel)
@[simp] theorem ne_known_step : (Str.ofString "known" = Str.ofString "step") = False := eq_false (by decide +kernel)
@[simp] theorem ne_known_gap : (Str.ofString "known" = Str.ofString "gap") = False := eq_false (by decide +kernel)
@[simp] theorem ne_known_least : (Str.ofString "known" = Str.ofString "least") = False := eq_false (by decide +kernel)
@[simp] theorem ne_known_private : (Str.ofString "known" = Str.ofString "private") = False := eq_false (by decide +kernel)
@[simp] theorem ne_known_hours : (Str.ofString "known" = Str.ofString "hours") = False := eq_false (by decide +kernel)
@[simp] theorem ne_known_length : (Str.ofString "known" = Str.ofString "length") = False := eq_false (by decide +kernel)
@[simp] theorem ne_known_meetings : (Str.ofString "known" = Str.ofString "meetings") = False := eq_false (by decide +kernel)
@[simp] theorem ne_known_shortest : (Str.ofString "known" = Str.ofString "shortest") = False := eq_false (by decide +kernel)
@[simp] theorem ne_known_most : (Str.ofString "known" = Str.ofString "most") = False := eq_false (by decide +kernel)
@[simp] theorem ne_known_busy : (Str.ofString "known" = Str.ofString "busy") = False := eq_false (by decide +kernel)
@[simp] theorem ne_known_none : (Str.ofString "known" = Str.ofString "none") = False := eq_false (by decide +kernel)
@[simp] theorem ne_known_apart : (Str.ofString "known" = Str.ofString "apart") = False := eq_false (by decide +kernel)
@[simp] theorem ne_known_one : (Str.ofString "known" = Str.ofString "one") = False := eq_false (by decide +kernel)
@[simp] theorem ne_busy_step : (Str.ofString "busy" = Str.ofString "step") = False := eq_false (by decide +kernel)
@[simp] theorem ne_busy_gap : (Str.ofString "busy" = Str.ofString "gap") = False := eq_false (by decide +kernel)
@[simp] theorem ne_busy_least : (Str.ofString "busy" = Str.ofString "least") = False := eq_false (by decide +kernel)
@[simp] theorem ne_busy_private : (Str.ofString "busy" = Str.ofString "private") = False := eq_false (by decide +kernel)
@[simp] theorem ne_busy_hours : (Str.ofString "busy" = Str.ofString "hours") = False := eq_false (by decide +kernel)
@[simp] theorem ne_busy_length : (Str.ofString "busy" = Str.ofString "length") = False := eq_false (by decide +kernel)
@[simp] theorem ne_busy_meetings : (Str.ofString "busy" = Str.ofString "meetings") = False := eq_false (by decide +kernel)
@[simp] theorem ne_busy_shortest : (Str.ofString "busy" = Str.ofString "shortest") = False := eq_false (by decide +kernel)
@[simp] theorem ne_busy_most : (Str.ofString "busy" = Str.ofString "most") = False := eq_false (by decide +kernel)
@[simp] theorem ne_busy_known : (Str.ofString "busy" = Str.ofString "known") = False := eq_false (by decide +kernel)
@[simp] theorem ne_busy_none : (Str.ofString "busy" = Str.ofString "none") = False := eq_false (by decide +kernel)
@[simp] theorem ne_busy_apart : (Str.ofString "busy" = Str.ofString "apart") = False := eq_false (by decide +kernel)
@[simp] theorem ne_busy_one : (Str.ofString "busy" = Str.ofString "one") = False := eq_false (by decide +kernel)
@[simp] theorem ne_none_step : (Str.ofString "none" = Str.ofString "step") = False := eq_false (by decide +kernel)
@[simp] theorem ne_none_gap : (Str.ofString "none" = Str.ofString "gap") = False := eq_false (by decide +kernel)
@[simp] theorem ne_none_least : (Str.ofString "none" = Str.ofString "least") = False := eq_false (by decide +kernel)
@[simp] theorem ne_none_private : (Str.ofString "none" = Str.ofString "private") = False := eq_false (by decide +kernel)
@[simp] theorem ne_none_hours : (Str.ofString "none" = Str.ofString "hours") = False := eq_false (by decide +kernel)
@[simp] theorem ne_none_length : (Str.ofString "none" = Str.ofString "length") = False := eq_false (by decide +kernel)
@[simp] theorem ne_none_meetings : (Str.ofString "none" = Str.ofString "meetings") = False := eq_false (by decide +kernel)
@[simp] theorem ne_none_shortest : (Str.ofString "none" = Str.ofString "shortest") = False := eq_false (by decide +kernel)
@[simp] theorem ne_none_most : (Str.ofString "none" = Str.ofString "most") = False := eq_false (by decide +kernel)
@[simp] theorem ne_none_known : (Str.ofString "none" = Str.ofString "known") = False := eq_false (by decide +kernel)
@[simp] theorem ne_none_busy : (Str.ofString "none" = Str.ofString "busy") = False := eq_false (by decide +kernel)
@[simp] theorem ne_none_apart : (Str.ofString "none" = Str.ofString "apart") = False := eq_false (by decide +kernel)
@[simp] theorem ne_none_one : (Str.ofString "none" = Str.ofString "one") = False := eq_false (by decide +kernel)
@[simp] theorem ne_apart_step : (Str.ofString "apart" = Str.ofString "step") = False := eq_false (by decide +kernel)
@[simp] theorem ne_apart_gap : (Str.ofString "apart" = Str.ofString "gap") = False := eq_false (by decide +kernel)
@[simp] theorem ne_apart_least : (Str.ofString "apart" = Str.ofString "least") = False := eq_false (by decide +kernel)
@[simp] theorem ne_apart_private : (Str.ofString "apart" = Str.ofString "private") = False := eq_false (by decide +kernel)
@[simp] theorem ne_apart_hours : (Str.ofString "apart" = Str.ofString "hours") = False := eq_false (by decide +kernel)
@[simp] theorem ne_apart_length : (Str.ofString "apart" = Str.ofString "length") = False := eq_false (by decide +kernel)
@[simp] theorem ne_apart_meetings : (Str.ofString "apart" = Str.ofString "meetings") = False := eq_false (by decide +kernel)
@[simp] theorem ne_apart_shortest : (Str.ofString "apart" = Str.ofString "shortest") = False := eq_false (by decide +kernel)
@[simp] theorem ne_apart_most : (Str.ofString "apart" = Str.ofString "most") = False := eq_false (by decide +kernel)
@[simp] theorem ne_apart_known : (Str.ofString "apart" = Str.ofString "known") = False := eq_false (by decide +kernel)
@[simp] theorem ne_apart_busy : (Str.ofString "apart" = Str.ofString "busy") = False := eq_false (by decide +kernel)
@[simp] theorem ne_apart_none : (Str.ofString "apart" = Str.ofString "none") = False := eq_false (by decide +kernel)
@[simp] theorem ne_apart_one : (Str.ofString "apart" = Str.ofString "one") = False := eq_false (by decide +kernel)
@[simp] theorem ne_one_step : (Str.ofString "one" = Str.ofString "step") = False := eq_false (by decide +kernel)
@[simp] theorem ne_one_gap : (Str.ofString "one" = Str.ofString "gap") = False := eq_false (by decide +kernel)
@[simp] theorem ne_one_least : (Str.ofString "one" = Str.ofString "least") = False := eq_false (by decide +kernel)
@[simp] theorem ne_one_private : (Str.ofString "one" = Str.ofString "private") = False := eq_false (by decide +kernel)
@[simp] theorem ne_one_hours : (Str.ofString "one" = Str.ofString "hours") = False := eq_false (by decide +kernel)
@[simp] theorem ne_one_length : (Str.ofString "one" = Str.ofString "length") = False := eq_false (by decide +kernel)
@[simp] theorem ne_one_meetings : (Str.ofString "one" = Str.ofString "meetings") = False := eq_false (by decide +kernel)
@[simp] theorem ne_one_shortest : (Str.ofString "one" = Str.ofString "shortest") = False := eq_false (by decide +kernel)
@[simp] theorem ne_one_most : (Str.ofString "one" = Str.ofString "most") = False := eq_false (by decide +kernel)
@[simp] theorem ne_one_known : (Str.ofString "one" = Str.ofString "known") = False := eq_false (by decide +kernel)
@[simp] theorem ne_one_busy : (Str.ofString "one" = Str.ofString "busy") = False := eq_false (by decide +kernel)
@[simp] theorem ne_one_none : (Str.ofString "one" = Str.ofString "none") = False := eq_false (by decide +kernel)
@[simp] theorem ne_one_apart : (Str.ofString "one" = Str.ofString "apart") = False := eq_false (by decide +kernel)
@[simp] theorem ne_but_step : (Str.ofString "but" = Str.ofString "step") = False := eq_false (by decide +kernel)
@[simp] theorem ne_but_gap : (Str.ofString "but" = Str.ofString "gap") = False := eq_false (by decide +kernel)
@[simp] theorem ne_but_least : (Str.ofString "but" = Str.ofString "least") = False := eq_false (by decide +kernel)
@[simp] theorem ne_but_private : (Str.ofString "but" = Str.ofString "private") = False := eq_false (by decide +kernel)
@[simp] theorem ne_but_hours : (Str.ofString "but" = Str.ofString "hours") = False := eq_false (by decide +kernel)
@[simp] theorem ne_but_length : (Str.ofString "but" = Str.ofString "length") = False := eq_false (by decide +kernel)
@[simp] theorem ne_but_meetings : (Str.ofString "but" = Str.ofString "meetings") = False := eq_false (by decide +kernel)
@[simp] theorem ne_but_shortest : (Str.ofString "but" = Str.ofString "shortest") = False := eq_false (by decide +kernel)
@[simp] theorem ne_but_most : (Str.ofString "but" = Str.ofString "most") = False := eq_false (by decide +kernel)
@[simp] theorem ne_but_known : (Str.ofString "but" = Str.ofString "known") = False := eq_false (by decide +kernel)
@[simp] theorem ne_without_step : (Str.ofString "without" = Str.ofString "step") = False := eq_false (by decide +kernel)
@[simp] theorem ne_without_gap : (Str.ofString "without" = Str.ofString "gap") = False := eq_false (by decide +kernel)
@[simp] theorem ne_without_least : (Str.ofString "without" = Str.ofString "least") = False := eq_false (by decide +kernel)
@[simp] theorem ne_without_private : (Str.ofString "without" = Str.ofString "private") = False := eq_false (by decide +kernel)
@[simp] theorem ne_without_hours : (Str.ofString "without" = Str.ofString "hours") = False := eq_false (by decide +kernel)
@[simp] theorem ne_without_length : (Str.ofString "without" = Str.ofString "length") = False := eq_false (by decide +kernel)
@[simp] theorem ne_without_meetings : (Str.ofString "without" = Str.ofString "meetings") = False := eq_false (by decide +kernel)
@[simp] theorem ne_without_shortest : (Str.ofString "without" = Str.ofString "shortest") = False := eq_false (by decide +kernel)
@[simp] theorem ne_without_most : (Str.ofString "without" = Str.ofString "most") = False := eq_false (by decide +kernel)
@[simp] theorem ne_without_known : (Str.ofString "without" = Str.ofString "known") = False := eq_false (by decide +kernel)
@[simp] theorem ne_having_step : (Str.ofString "having" = Str.ofString "step") = False := eq_false (by decide +kernel)
@[simp] theorem ne_having_gap : (Str.ofString "having" = Str.ofString "gap") = False := eq_false (by decide +kernel)
@[simp] theorem ne_having_least : (Str.ofString "having" = Str.ofString "least") = False := eq_false (by decide +kernel)
@[simp] theorem ne_having_private : (Str.ofString "having" = Str.ofString "private") = False := eq_false (by decide +kernel)
@[simp] theorem ne_having_hours : (Str.ofString "having" = Str.ofString "hours") = False := eq_false (by decide +kernel)
@[simp] theorem ne_having_length : (Str.ofString "having" = Str.ofString "length") = False := eq_false (by decide +kernel)
@[simp] theorem ne_having_meetings : (Str.ofString "having" = Str.ofString "meetings") = False := eq_false (by decide +kernel)
@[simp] theorem ne_having_shortest : (Str.ofString "having" = Str.ofString "shortest") = False := eq_false (by decide +kernel)
@[simp] theorem ne_having_most : (Str.ofString "having" = Str.ofString "most") = False := eq_false (by decide +kernel)
@[simp] theorem ne_having_known : (Str.ofString "having" = Str.ofString "known") = False := eq_false (by decide +kernel)
@[simp] theorem ne_knowing_step : (Str.ofString "knowing" = Str.ofString "step") = False := eq_false (by decide +kernel)
@[simp] theorem ne_knowing_gap : (Str.ofString "knowing" = Str.ofString "gap") = False := eq_false (by decide +kernel)
@[simp] theorem ne_knowing_least : (Str.ofString "knowing" = Str.ofString "least") = False := eq_false (by decide +kernel)
@[simp] theorem ne_knowing_private : (Str.ofString "knowing" = Str.ofString "private") = False := eq_false (by decide +kernel)
@[simp] theorem ne_knowing_hours : (Str.ofString "knowing" = Str.ofString "hours") = False := eq_false (by decide +kernel)
@[simp] theorem ne_knowing_length : (Str.ofString "knowing" = Str.ofString "length") = False := eq_false (by decide +kernel)
@[simp] theorem ne_knowing_meetings : (Str.ofString "knowing" = Str.ofString "meetings") = False := eq_false (by decide +kernel)
@[simp] theorem ne_knowing_shortest : (Str.ofString "knowing" = Str.ofString "shortest") = False := eq_false (by decide +kernel)
@[simp] theorem ne_knowing_most : (Str.ofString "knowing" = Str.ofString "most") = False := eq_false (by decide +kernel)
@[simp] theorem ne_knowing_known : (Str.ofString "knowing" = Str.ofString "known") = False := eq_false (by decide +kernel)
@[simp] theorem ne_lets_step : (Str.ofString "lets" = Str.ofString "step") = False := eq_false (by decide +kernel)
@[simp] theorem ne_lets_gap : (Str.ofString "lets" = Str.ofString "gap") = False := eq_false (by decide +kernel)
@[simp] theorem ne_lets_least : (Str.ofString "lets" = Str.ofString "least") = False := eq_false (by decide +kernel)
@[simp] theorem ne_lets_private : (Str.ofString "lets" = Str.ofString "private") = False := eq_false (by decide +kernel)
@[simp] theorem ne_lets_hours : (Str.ofString "lets" = Str.ofString "hours") = False := eq_false (by decide +kernel)
@[simp] theorem ne_lets_length : (Str.ofString "lets" = Str.ofString "length") = False := eq_false (by decide +kernel)
@[simp] theorem ne_lets_meetings : (Str.ofString "lets" = Str.ofString "meetings") = False := eq_false (by decide +kernel)
@[simp] theorem ne_lets_shortest : (Str.ofString "lets" = Str.ofString "shortest") = False := eq_false (by decide +kernel)
@[simp] theorem ne_lets_most : (Str.ofString "lets" = Str.ofString "most") = False := eq_false (by decide +kernel)
@[simp] theorem ne_lets_known : (Str.ofString "lets" = Str.ofString "known") = False := eq_false (by decide +kernel)
end DL
set_option linter.all false
set_option maxRecDepth 100000
set_option maxHeartbeats 1000000
namespace DL
open PySem PySem.Spec PyProof.Rows L2 DD
theorem pyEq_s {a b : Str} : pyEq (.str a) (.str b) = decide (a = b) := by
  show PyData.eqv (.str a) (.str b) = _
  simp [PyData.eqv]
  try rfl
theorem pyEq_i {a b : Int} : pyEq (.int a) (.int b) = decide (a = b) := by
  show PyData.eqv (.int a) (.int b) = _
  simp [PyData.eqv]
  try rfl
theorem inD_s {s : Str} {xs : List Str} : inD (.str s) (xs.map D.str) = decide (s ∈ xs) := by
  induction xs with
  | nil => rfl
  | cons x xs ih =>
    rw [List.map_cons]
    show (pyEq (.str x) (.str s) || inD (.str s) (xs.map D.str)) = _
    rw [ih, pyEq_s]
    by_cases h : x = s
    · simp [h]
    · have h' : ¬ s = x := fun e => h e.symm
      simp [h, h']
theorem inD_i {i : Int} {xs : List Int} : inD (.int i) (xs.map D.int) = decide (i ∈ xs) := by
  induction xs with
  | nil => rfl
  | cons x xs ih =>
    rw [List.map_cons]
    show (pyEq (.int x) (.int i) || inD (.int i) (xs.map D.int)) = _
    rw [ih, pyEq_i]
    by_cases h : x = i
    · simp [h]
    · have h' : ¬ i = x := fun e => h e.symm
      simp [h, h']
theorem flat_s {xs : List Str} : (xs.map D.str).all D.flat = true := by simp [D.flat]
theorem flat_i {xs : List Int} : (xs.map D.int).all D.flat = true := by simp [D.flat]
theorem in_strs {s : Str} {xs : List Str} : opInB (.str s) (.tup (xs.map D.str)) = some (decide (s ∈ xs)) := by
  show (if _ then some (inD (.str s) (xs.map D.str)) else _) = _
  rw [if_pos ⟨rfl, flat_s⟩, inD_s]
theorem in_ints {i : Int} {xs : List Int} : opInB (.int i) (.lst (xs.map D.int)) = some (decide (i ∈ xs)) := by
  show (if _ then some (inD (.int i) (xs.map D.int)) else _) = _
  rw [if_pos ⟨rfl, flat_i⟩, inD_i]
@[simp] theorem in_s4 {s a b c d : Str} : opInB (.str s) (.tup [.str a, .str b, .str c, .str d]) = some (decide (s ∈ [a, b, c, d])) := in_strs (xs := [a, b, c, d])
@[simp] theorem in_s2 {s a b : Str} : opInB (.str s) (.tup [.str a, .str b]) = some (decide (s ∈ [a, b])) := in_strs (xs := [a, b])
def dvD (c : Cl) (n : Int) (ms : List Mt) : D := .ins c.Day ["length", "meetings"] [.int n, .tup (ms.map mtD)]
def dyO (c : Cl) (n : Int) (ms : List Mt) : O := .ins c.Day ["length", "meetings"] [.int n, .tup (ms.map mtD)]
theorem day_init {c : Cl} {n : Int} {ms : List Mt} (h1 : 1 ≤ n) (h : Meets 0 ms) (hn : endOf 0 ms ≤ n) {d : D} (hd : d = .lst (ms.map mtD) ∨ d = .tup (ms.map mtD)) : GivesB 3 (fun ρ => D_Day___init__ c (fillD 3 [] ρ)) (.ins c.Day [] []) [.int n, d] (.val .non) (dyO c n ms) := by
  obtain ⟨_, p⟩ := (are_meetings_v (c := c) h hn hd).elim
  obtain ⟨_, p1⟩ := (is_positive_v (c := c) (i := n)).elim
  simp at p p1
  rcases hd with rfl | rfl
  · simp [GivesB, D_Day___init__, fillD, p, p1, h1, dyO]
  · simp [GivesB, D_Day___init__, fillD, p, p1, h1, dyO]
theorem day_init1 {c : Cl} {n : Int} (h1 : 1 ≤ n) : GivesB 3 (fun ρ => D_Day___init__ c (fillD 2 [(.tup [])] ρ)) (.ins c.Day [] []) [.int n] (.val .non) (dyO c n []) := by
  obtain ⟨_, p⟩ := (are_meetings_v (c := c) (n := n) (ms := []) trivial (by show (0 : Int) ≤ n; omega) (.inr rfl)).elim
  obtain ⟨_, p1⟩ := (is_positive_v (c := c) (i := n)).elim
  simp at p p1
  simp [GivesB, D_Day___init__, fillD, p, p1, h1, dyO]
end DL
set_option linter.all false
set_option maxRecDepth 100000
set_option maxHeartbeats 1000000
namespace DL
open PySem PySem.Spec PyProof.Rows L2 DD
@[simp] theorem atI_zero {α : Type} {a : α} {L : List α} : atI (a :: L) 0 = some a := by
  have : (0 : Int) < (L.length : Int) + 1 := by omega
  simp [atI, ixN, this]
@[simp] theorem atI_one {α : Type} {a b : α} {L : List α} : atI (a :: b :: L) 1 = some b := by
  have : (1 : Int) < (L.length : Int) + 1 + 1 := by omega
  simp [atI, ixN, this]
@[simp] theorem atI_two {α : Type} {a b d : α} {L : List α} : atI (a :: b :: d :: L) 2 = some d := by
  have : (2 : Int) < (L.length : Int) + 1 + 1 + 1 := by omega
  simp [atI, ixN, this]
@[simp] theorem atI_three {α : Type} {a b d e : α} {L : List α} : atI (a :: b :: d :: e :: L) 3 = some e := by
  have : (3 : Int) < (L.length : Int) + 1 + 1 + 1 + 1 := by omega
  simp [atI, ixN, this]
@[simp] theorem atI_four {α : Type} {a b d e f : α} {L : List α} : atI (a :: b :: d :: e :: f :: L) 4 = some f := by
  have : (4 : Int) < (L.length : Int) + 1 + 1 + 1 + 1 + 1 := by omega
  simp [atI, ixN, this]
@[simp] theorem ixN_last {n : Nat} : ixN (n + 1) (-1) = some n := by
  have h1 : ¬ (0 : Int) ≤ -1 := by omega
  have h3 : (1 : Int) ≤ (n : Int) + 1 := by omega
  have h4 : (-1 + ((n : Int) + 1)).toNat = n := by omega
  simp [ixN, h3, h4]
@[simp] theorem atI_last {α : Type} {a : α} {L : List α} : atI (L ++ [a]) (-1) = some a := by
  unfold atI
  rw [List.length_append, List.length_singleton, ixN_last]
  simp
@[simp] theorem set_last {α : Type} {a b : α} {L : List α} : (L ++ [a]).set L.length b = L ++ [b] := by
  simp
/-- things that can be sorted -/
structure Bord {β : Type} (enc : β → D) (key : β → PyData) : Prop where
  py : ∀ b, (enc b).py = some (key b)
  inj : ∀ a b, PySem.W.keyToks (key a) = PySem.W.keyToks (key b) → a = b
  al : ∀ a b, PySem.W.alike (key a) (key b) = true
  tup : ∀ a, ∃ x r, key a = .tuple (x :: r)
  pl : ∀ a, (key a).plain = true
  dp : ∀ a, (key a).depth ≤ 50
  lt : ∀ a b, opLt (enc a) (enc b) = opLtD (enc a) (enc b)
  cl : ∀ a, (key a).canLay0 = true
section
variable {β : Type} {enc : β → D} {key : β → PyData}
theorem Bord.eqv (o : Bord enc key) {a b : β} : PyData.eqv (key a) (key b) = true ↔ a = b := by
  refine ⟨fun h => o.inj a b ((PySem.W.toks_eqv _ _ (o.al a b)).1 h), ?_⟩
  rintro rfl
  exact PySem.W.eqv_refl_alike _ (o.al a a)
theorem Bord.pyA (o : Bord enc key) : ∀ L : List β, D.pyA (L.map enc) = some (L.map key)
  | [] => rfl
  | a :: L => by
    rw [List.map_cons, List.map_cons]
    simp only [D.pyA, o.py, o.pyA L]
@[simp] theorem eqB_nil : eqB (.lst []) (.lst []) = some true := rfl
end
def wd (p : Bool) : Str := if p then "private" else "busy"
@[simp] theorem wd_t : wd true = "private" := rfl
@[simp] theorem wd_f : wd false = "busy" := rfl
end DL
set_option linter.all false
set_option maxRecDepth 100000
set_option maxHeartbeats 1000000
namespace DL
open PySem PySem.Spec PyProof.Rows L2 DD
end DL
set_option linter.all false
set_option maxRecDepth 100000
set_option maxHeartbeats 1000000
namespace DL
open PySem PySem.Spec PyProof.Rows L2 DD
/-- a comprehension, step by step -/
theorem lc_fm {α : Type} {vs : List Nat} {U : Tg} {T : En → Res Bool} {A : En → Res X} {enc : α → D} (f : α → Option D) {ρ : En} : ∀ {L : List α} {acc : List D}, (∀ x ∈ L, ∀ ds acc, acc.length < 100000 → lcL vs U T A (enc x :: ds) ρ acc = lcL vs U T A ds ρ (acc ++ (f x).toList)) → L.length + acc.length ≤ 100000 → lcL vs U T A (L.map enc) ρ acc = .ok (acc ++ L.filterMap f) ρ
  | [], acc, _, _ => by simp [lcL]
  | x :: L, acc, h, hz => by
    rw [List.map_cons, h x List.mem_cons_self _ _ (by simp at hz; omega), lc_fm f (L := L) (fun y hy => h y (List.mem_cons_of_mem _ hy)) (by
      simp at hz ⊢
      cases f x <;> simp <;> omega)]
    cases e : f x <;> simp [List.filterMap_cons, e]
def up (t s : Int) : Int := (t + s - 1) / s * s
end DL
set_option linter.all false
set_option maxRecDepth 100000
set_option maxHeartbeats 1000000
namespace DL
open PySem PySem.Spec PyProof.Rows L2 DD
end DL
set_option linter.all false
set_option maxRecDepth 100000
set_option maxHeartbeats 1000000
namespace DL
open PySem PySem.Spec PyProof.Rows L2 DD
end DL
set_option linter.all false
set_option maxRecDepth 100000
set_option maxHeartbeats 1000000
namespace DL
open PySem PySem.Spec PyProof.Rows L2 DD
def tk (b e : Int) : List Int := (List.range (e - b).toNat).map fun n => b + (n : Nat)
def flat (J : List (Int × Int)) : List Int := J.flatMap fun x => tk x.1 x.2
theorem tk_len {b e : Int} (h : b ≤ e) : ((tk b e).length : Int) = e - b := by
  simp [tk]
  omega
/-- spans in their order, not touching, up to a tick -/
structure Spc (a : Int) (J : List (Int × Int)) : Prop where
  one : ∀ x ∈ J, 0 ≤ x.1 ∧ x.1 < x.2 ∧ x.2 ≤ a
  two : J.Pairwise fun x y => x.2 < y.1
theorem Spc.nil {a : Int} : Spc a [] := ⟨fun x h => by simp at h, .nil⟩
theorem Spc.mono {a b : Int} {J : List (Int × Int)} (h : Spc a J) (hb : a ≤ b) : Spc b J := ⟨fun x hx => by have := h.one x hx; omega, h.two⟩
theorem Spc.snoc {a b : Int} {J : List (Int × Int)} {y : Int × Int} (h : Spc a J) (h0 : 0 ≤ y.1) (h1 : ∀ x ∈ J, x.2 < y.1) (h2 : y.1 < y.2) (h3 : y.2 ≤ b) (h4 : a ≤ b) : Spc b (J ++ [y]) := ⟨fun x hx => by
  rw [List.mem_append] at hx
  rcases hx with hx | hx
  · have := h.one x hx
    omega
  · simp at hx
    subst hx
    omega, by
  rw [List.pairwise_append]
  refine ⟨h.two, by simp, fun x hx z hz => ?_⟩
  simp at hz
  subst hz
  exact h1 x hx⟩
end DL
set_option linter.all false
set_option maxRecDepth 100000
set_option maxHeartbeats 1000000
namespace DL
open PySem PySem.Spec PyProof.Rows L2 DD
theorem eqB_lst_nil {β : Type} {enc : β → D} {key : β → PyData} (py : ∀ b, (enc b).py = some (key b)) (cl : ∀ b, (key b).canLay0 = true) (dp : ∀ b, (key b).depth ≤ 50) (L : List β) : eqB (.lst (L.map enc)) (.lst []) = some L.isEmpty := by
  have h1 : ∀ L : List β, D.pyA (L.map enc) = some (L.map key) := by
    intro L
    induction L with
    | nil => rfl
    | cons a L ih =>
      rw [List.map_cons, List.map_cons]
      simp only [D.pyA, py, ih]
  have h2 : ∀ L : List β, PyData.canLayAll0 (L.map key) = true := by
    intro L
    induction L with
    | nil => rfl
    | cons a L ih =>
      rw [List.map_cons]
      simp only [PyData.canLayAll0, cl a, ih, Bool.and_self]
  have h3 : ∀ L : List β, PyData.depthAll (L.map key) ≤ 50 := by
    intro L
    induction L with
    | nil => simp [PyData.depthAll]
    | cons a L ih =>
      rw [List.map_cons]
      simp only [PyData.depthAll]
      have := dp a
      omega
  have hs : SeqAt.shaped (.list (L.map key)) = true := by
    unfold SeqAt.shaped
    simp only [PyData.canLay0, h2 L, Bool.true_and, PyData.depth]
    have := h3 L
    simp
    omega
  have h : (D.lst (L.map enc)).py = some (.list (L.map key)) := by simp only [D.py, h1 L, Option.map]
  show (match (D.lst (L.map enc)).py, (D.lst []).py with
    | some p, some q => if SeqAt.shaped p = true ∧ SeqAt.shaped q = true then some (PyData.eqv p q) else none
    | _, _ => match D.lst (L.map enc), D.lst [] with
      | .lst ds, .lst es => if ds.length = es.length then none else some false
      | _, _ => none) = _
  rw [h]
  show (if SeqAt.shaped (.list (L.map key)) = true ∧ SeqAt.shaped (.list []) = true then some (PyData.eqv (.list (L.map key)) (.list [])) else none) = _
  rw [if_pos ⟨hs, rfl⟩]
  cases L with
  | nil => rfl
  | cons a L => rfl
theorem eqB_ints_nil (L : List Int) : eqB (.lst (L.map D.int)) (.lst []) = some L.isEmpty := eqB_lst_nil (key := PyData.int) (fun _ => rfl) (fun _ => rfl) (fun b => by simp [PyData.depth]) L
theorem endOf_nonneg : ∀ {a : Int} {ms : List Mt}, 0 ≤ a → Meets a ms → a ≤ endOf a ms
  | a, [], _, _ => Int.le_refl _
  | a, m :: ms, h0, h => by
    have := endOf_nonneg (a := m.2.1) (by have := h.1; have := h.2.1; omega) h.2.2
    have := h.1
    have := h.2.1
    show a ≤ endOf m.2.1 ms
    omega
end DL
set_option linter.all false
set_option maxRecDepth 100000
set_option maxHeartbeats 1000000
namespace DL
open PySem PySem.Spec PyProof.Rows L2 DD
end DL
set_option linter.all false
set_option maxRecDepth 100000
set_option maxHeartbeats 1000000
namespace DL
open PySem PySem.Spec PyProof.Rows L2 DD
end DL
set_option linter.all false
set_option maxRecDepth 100000
set_option maxHeartbeats 1000000
namespace DL
open PySem PySem.Spec PyProof.Rows L2 DD
def In (i : Int) : Prop := 0 ≤ i ∧ i ≤ 1100
/-- the text of a number -/
def iT (i : Int) : Str := Str.ofString (toString i)
@[simp] theorem iT_r {i : Int} : Str.ofString i.repr = iT i := rfl
@[simp] theorem iT_s {i : Int} : Str.ofString (toString i) = iT i := rfl
theorem In.len {i : Int} (h : In i) : (iT i).length ≤ 5 := by
  have e := int_text_length_le10 (a := i) (k := 4) (by decide) (by have := h.1; have := h.2; omega)
  show (Str.ofString (toString i)).length ≤ 5
  rw [PySem.ofString_length]
  omega
@[simp] theorem e_app {x : Str} : Str.empty ++ x = x := Str.empty_append x
@[simp] theorem app_e {x : Str} : x ++ Str.ofString "" = x := Str.append_empty x
@[simp] theorem l_dash : (Str.ofString "-").length = 1 := by decide +kernel
@[simp] theorem l_priv : (Str.ofString " private").length = 8 := by decide +kernel
@[simp] theorem l_nil : (Str.ofString "").length = 0 := by decide +kernel
@[simp] theorem l_colon : (Str.ofString ": ").length = 2 := by decide +kernel
@[simp] theorem l_comma : (Str.ofString ", ").length = 2 := by decide +kernel
@[simp] theorem l_sp : (Str.ofString " ").length = 1 := by decide +kernel
end DL
set_option linter.all false
set_option maxRecDepth 100000
set_option maxHeartbeats 1000000
namespace DL
open PySem PySem.Spec PyProof.Rows L2 DD
@[simp] theorem l_hours : (Str.ofString " hours ").length = 7 := by decide +kernel
@[simp] theorem l_step : (Str.ofString "step ").length = 5 := by decide +kernel
@[simp] theorem l_gap : (Str.ofString " gap ").length = 5 := by decide +kernel
@[simp] theorem l_least : (Str.ofString " least ").length = 7 := by decide +kernel
@[simp] theorem l_private : (Str.ofString " private ").length = 9 := by decide +kernel
end DL
set_option linter.all false
set_option maxRecDepth 100000
set_option maxHeartbeats 1000000
namespace DL
open PySem PySem.Spec PyProof.Rows L2 DD
end DL
set_option linter.all false
set_option maxRecDepth 100000
set_option maxHeartbeats 1000000
namespace DL
open PySem PySem.Spec PyProof.Rows L2 DD
theorem eqB_lst {ds es : List D} {ps qs : List PyData} (h1 : D.pyA ds = some ps) (h2 : D.pyA es = some qs) (s1 : SeqAt.shaped (.list ps) = true) (s2 : SeqAt.shaped (.list qs) = true) : eqB (.lst ds) (.lst es) = some (PyData.eqvAll ps qs) := by
  have e1 : (D.lst ds).py = some (.list ps) := by simp only [D.py, h1, Option.map]
  have e2 : (D.lst es).py = some (.list qs) := by simp only [D.py, h2, Option.map]
  show (match (D.lst ds).py, (D.lst es).py with
    | some p, some q => if SeqAt.shaped p = true ∧ SeqAt.shaped q = true then some (PyData.eqv p q) else none
    | _, _ => match D.lst ds, D.lst es with
      | .lst ds, .lst es => if ds.length = es.length then none else some false
      | _, _ => none) = _
  rw [e1, e2]
  show (if SeqAt.shaped (.list ps) = true ∧ SeqAt.shaped (.list qs) = true then some (PyData.eqv (.list ps) (.list qs)) else none) = _
  rw [if_pos ⟨s1, s2⟩, PyData.eqv]
theorem sh_b4 {a b c d : Bool} : SeqAt.shaped (.list [.bool a, .bool b, .bool c, .bool d]) = true := by
  simp [SeqAt.shaped, PyData.canLay0, PyData.canLayAll0, PyData.depth, PyData.depthAll]
@[simp] theorem eq_b4 {a b c d a' b' c' d' : Bool} : eqB (.lst [.bl a, .bl b, .bl c, .bl d]) (.lst [.bl a', .bl b', .bl c', .bl d']) = some (decide (a = a' ∧ b = b' ∧ c = c' ∧ d = d')) := by
  rw [eqB_lst (ps := [.bool a, .bool b, .bool c, .bool d]) (qs := [.bool a', .bool b', .bool c', .bool d']) rfl rfl sh_b4 sh_b4]
  cases a <;> cases b <;> cases c <;> cases d <;> cases a' <;> cases b' <;> cases c' <;> cases d' <;> rfl
def w4 (p : Str) : Prop := p ∈ (["busy", "none", "apart", "one"] : List Str)
end DL
set_option linter.all false
set_option maxRecDepth 100000
set_option maxHeartbeats 1000000
namespace DL
open PySem PySem.Spec PyProof.Rows L2 DD
/-- a number that a text can have -/
def Sm (i : Int) : Prop := 0 ≤ i ∧ i ≤ 99
@[simp] theorem q_dSl3 {st : Int} {A : En → Res X} {L U : En → Res (Option Int)} {ρ : En} : dSl3 st A L U ρ = ((A ρ).bind fun a ρ1 => (L ρ1).bind fun lo ρ2 => (U ρ2).bind fun hi ρ3 => match deref ρ3 a.settle with
  | some d => lift (opSl3 st d lo hi) ρ3
  | none => .stuck) := rfl
@[simp] theorem q_dEqOS {C : Addr} {m : Nat} {T : En → SR} {A B : En → Res X} {ρ : En} : dEqOS C m T A B ρ = ((A ρ).bind fun a ρ1 => (B ρ1).bind fun b ρ2 => match toVal ρ2 a.settle with
  | some (.ins C' ks es, ρ3) => match toVal ρ3 b.settle with
    | some (.str z, ρ4) => if C' = C then callP xBl (fin (T (env0 m [.val (D.ins C' ks es), .val (D.str z)]))) ρ4 else .stuck
    | _ => .stuck
  | _ => .stuck) := rfl
end DL
set_option linter.all false
set_option maxRecDepth 100000
set_option maxHeartbeats 1000000
namespace DL
open PySem PySem.Spec PyProof.Rows L2 DD
def MtSm2 (m : Mt) : Prop := Sm m.1 ∧ Sm m.2.1
end DL
set_option linter.all false
set_option maxRecDepth 100000
set_option maxHeartbeats 1000000
namespace DL
open PySem PySem.Spec PyProof.Rows L2 DD
end DL
set_option linter.all false
set_option maxRecDepth 100000
set_option maxHeartbeats 1000000
namespace DL
open PySem PySem.Spec PyProof.Rows L2 DD
theorem allB_t : ∀ n : Nat, allB (List.replicate n (.bl true)) = some (List.replicate n true)
  | 0 => rfl
  | n + 1 => by
    rw [List.replicate_succ, List.replicate_succ]
    simp [allB, allB_t n]
theorem fm_const {α : Type} {d : D} : ∀ L : List α, (L.filterMap fun _ => some d) = List.replicate L.length d
  | [] => rfl
  | a :: L => by
    rw [List.filterMap_cons]
    simp [fm_const L, List.replicate_succ]
end DL
set_option linter.all false
set_option maxRecDepth 100000
set_option maxHeartbeats 1000000
namespace DL
open PySem PySem.Spec PyProof.Rows L2 DD
abbrev Kn := Int × Bool
structure Fr where
  n : Int
  s : Int
  m : Option Int
  p : Bool
  ks : List Kn
def knD (k : Kn) : D := .tup [.int k.1, .bl k.2]
def moD : Option Int → D
  | none => .non
  | some i => .int i
def frD (f : Fr) : D := .tup [.int f.n, .int f.s, moD f.m, .bl f.p, .lst (f.ks.map knD)]
def frO (c : Cl) (f : Fr) : O := .ins c.Frame ["length", "shortest", "most", "private", "known"] [.int f.n, .int f.s, moD f.m, .bl f.p, .tup (f.ks.map knD)]
def fvD (c : Cl) (f : Fr) : D := .ins c.Frame ["length", "shortest", "most", "private", "known"] [.int f.n, .int f.s, moD f.m, .bl f.p, .tup (f.ks.map knD)]
structure FrIn (f : Fr) : Prop where
  n : 1 ≤ f.n
  s : 1 ≤ f.s
  m : ∀ i, f.m = some i → 0 ≤ i
  k : ∀ x ∈ f.ks, 0 ≤ x.1 ∧ x.1 < f.n
  z : f.ks.length ≤ 50
theorem frame_loop {c : Cl} {b : Int × Int} {n : Int} (h1 : 1 ≤ n) (h2 : n ≤ 1000) {v1 v2 : Slot} {N : Nat} (hN : N ≤ 40) : ∃ (b' : Int × Int) (ks : List Kn) (t3 : Slot), forL (uName 3) (D__law_frame_b1 c) ((List.range N).map fun i => D.int (i : Nat)) [.bor (box b), v1, v2, .none, .none, .val (.int n), .own (.lst [])] = .nx [.bor (box b'), v1, v2, t3, .none, .val (.int n), .own (.lst (ks.map knD))] ∧ t3.free = true ∧ ks.length ≤ N ∧ ∀ x ∈ ks, 0 ≤ x.1 ∧ x.1 < n := by
  obtain ⟨ρ', e, b', ks, t3, rfl, g3, hl, hk⟩ := forR_inv (U := uName 3) (B := D__law_frame_b1 c) (n := N) (fun i ρ => ∃ (b : Int × Int) (ks : List Kn) (s3 : Slot), ρ = [.bor (box b), v1, v2, s3, .none, .val (.int n), .own (.lst (ks.map knD))] ∧ s3.free = true ∧ ks.length ≤ i ∧ ∀ x ∈ ks, 0 ≤ x.1 ∧ x.1 < n) (fun i hi ρ hw => by
    obtain ⟨b, ks, s3, rfl, f3, hl, hk⟩ := hw
    obtain ⟨x, b1, g1, x0, x1⟩ := choose_gives (c := c) b (m := n) (by omega) (by omega)
    obtain ⟨y, b2, g2, y0, y1⟩ := choose_gives (c := c) b1 (m := 2) (by omega) (by omega)
    obtain ⟨_, p1, q1⟩ := g1.elim
    obtain ⟨_, p2, q2⟩ := g2.elim
    simp at p1 p2
    have z : ks.length < 16777216 := by omega
    refine ⟨_, .inl (by simp [D__law_frame_b1, f3, p1, q1, p2, q2, z] <;> rfl), b2, ks ++ [(x, decide (y = 0))], .val (.int i), ?_, rfl, by simp; omega, fun k hk' => ?_⟩
    · simp [knD]
    · rcases List.mem_append.mp hk' with h | h
      · exact hk k h
      · obtain rfl := List.mem_singleton.mp h
        exact ⟨x0, x1⟩) (ρ := [.bor (box b), v1, v2, .none, .none, .val (.int n), .own (.lst [])]) ⟨b, [], .none, rfl, rfl, Nat.le_refl 0, fun x h => by simp at h⟩
  exact ⟨b', ks, t3, e, g3, hl, hk⟩
theorem frame_gives {c : Cl} (b : Int × Int) {top : Int} (h1 : 1 ≤ top) (h2 : top ≤ 90) : ∃ (f : Fr) (b' : Int × Int), GivesB 7 (D__law_frame c) (box b) [.int top, .bl true] (.val (frD f)) (box b') ∧ FrIn f ∧ f.n ≤ top ∧ f.s ≤ 90 ∧ (∀ i, f.m = some i → i ≤ 90) ∧ f.ks.length ≤ 2 := by
  obtain ⟨x, b1, g1, x0, x1⟩ := choose_gives (c := c) b (m := top) (by omega) (by omega)
  obtain ⟨d, b2, g2, hd⟩ := one_of_gives (c := c) b1 (ds := [0, 0, 0, 1, 2].map D.int) (by simp) (by simp)
  obtain ⟨N, hN, rfl⟩ := mem_int hd
  have hN2 : 0 ≤ N ∧ N ≤ 2 := by simp at hN; omega
  obtain ⟨b3, ks, t3, e3, g3, hl, hk⟩ := frame_loop (c := c) (b := b2) (n := 1 + x) (by omega) (by omega) (v1 := .val (.int top)) (v2 := .val (.bl true)) (N := N.toNat) (by omega)
  obtain ⟨y, b4, g4, y0, y1⟩ := choose_gives (c := c) b3 (m := 4) (by omega) (by omega)
  obtain ⟨d, b5, g5, hm⟩ := one_of_gives (c := c) b4 (ds := [.non, .non, .int y]) (by simp) (by simp)
  obtain ⟨d2, b6, g6, hd2⟩ := one_of_gives (c := c) b5 (ds := [1, 1, 2, 3].map D.int) (by simp) (by simp)
  obtain ⟨s, hs, rfl⟩ := mem_int hd2
  have hs2 : 1 ≤ s ∧ s ≤ 3 := by simp at hs; omega
  obtain ⟨z, b7, g7, z0, z1⟩ := choose_gives (c := c) b6 (m := 3) (by omega) (by omega)
  obtain ⟨_, p1, q1⟩ := g1.elim
  obtain ⟨_, p2, q2⟩ := g2.elim
  obtain ⟨_, p4, q4⟩ := g4.elim
  obtain ⟨_, p5, q5⟩ := g5.elim
  obtain ⟨_, p6, q6⟩ := g6.elim
  obtain ⟨_, p7, q7⟩ := g7.elim
  have r1 : -4611686018427387904 ≤ N := by omega
  have r2 : N < 4611686018427387904 := by omega
  simp at p1 p2 p4 p5 p6 p7 hm
  rcases hm with rfl | rfl
  · refine ⟨⟨1 + x, s, none, decide (z = 0), ks⟩, b7, ?_, ⟨by show 1 ≤ 1 + x; omega, hs2.1, (fun i e => nomatch e), hk, by show ks.length ≤ 50; omega⟩, by show 1 + x ≤ top; omega, by show s ≤ 90; omega, (fun i e => nomatch e), by show ks.length ≤ 2; omega⟩
    simp [GivesB, D__law_frame, p1, q1, p2, q2, r1, r2, e3, p4, q4, p5, q5, p6, q6, p7, q7, frD, moD]
  · refine ⟨⟨1 + x, s, some y, decide (z = 0), ks⟩, b7, ?_, ⟨by show 1 ≤ 1 + x; omega, hs2.1, (fun i e => by cases e; exact y0), hk, by show ks.length ≤ 50; omega⟩, by show 1 + x ≤ top; omega, by show s ≤ 90; omega, (fun i e => by cases e; omega), by show ks.length ≤ 2; omega⟩
    simp [GivesB, D__law_frame, p1, q1, p2, q2, r1, r2, e3, p4, q4, p5, q5, p6, q6, p7, q7, frD, moD]
theorem is_known_v {c : Cl} {k : Kn} {n : Int} (h : 0 ≤ k.1 ∧ k.1 < n) : Gives 4 (D__is_known c) [knD k, .int n] (.val (.bl true)) := by
  obtain ⟨_, p⟩ := (is_number_v (c := c) (i := k.1)).elim
  have h1 := h.1
  have h2 := h.2
  simp at p
  simp [Gives, D__is_known, knD, anyK, p, h1, h2]
theorem are_known_v {c : Cl} {n : Int} {ks : List Kn} (h : ∀ x ∈ ks, 0 ≤ x.1 ∧ x.1 < n) (hz : ks.length ≤ 60) {d : D} (hd : d = .lst (ks.map knD) ∨ d = .tup (ks.map knD)) : Gives 3 (D__are_known c) [d, .int n] (.val (.bl true)) := by
  have lc : lcL [2] (uName 2) tdYes (dCall 2 4 (D__is_known c) (aCons (dVar 2) (aCons (dVar 1) aNil))) (ks.map knD) [.val d, .val (.int n), .none] [] = .ok ([] ++ ks.filterMap fun _ => some (.bl true)) [.val d, .val (.int n), .none] := by
    refine lc_fm (enc := knD) (fun _ => some (.bl true)) (fun k hk ds acc ha => ?_) (by simp; omega)
    obtain ⟨_, p⟩ := (is_known_v (c := c) (h k hk)).elim
    simp at p
    have ha' : acc.length < 16777216 := by omega
    simp [lcL, tdYes, p, ha']
  rw [fm_const] at lc
  have t1 := allB_t ks.length
  rcases hd with rfl | rfl
  · obtain ⟨_, p⟩ := (is_sequence_l (c := c) (ds := ks.map knD)).elim
    simp at p lc
    simp [Gives, D__are_known, p, lcAll, lc, t1]
  · obtain ⟨_, p⟩ := (is_sequence_t (c := c) (ds := ks.map knD)).elim
    simp at p lc
    simp [Gives, D__are_known, p, lcAll, lc, t1]
theorem wrong_f_v {c : Cl} {f : Fr} (ok : FrIn f) {d : D} (hd : d = .lst (f.ks.map knD) ∨ d = .tup (f.ks.map knD)) : Gives 5 (D_wrong_argument_frames c) [.int f.n, .int f.s, moD f.m, .bl f.p, d] (.val .non) := by
  obtain ⟨_, p1⟩ := (is_positive_v (c := c) (i := f.n)).elim
  obtain ⟨_, p2⟩ := (is_positive_v (c := c) (i := f.s)).elim
  obtain ⟨_, p4⟩ := (are_known_v (c := c) ok.k (by have := ok.z; omega) hd).elim
  have h1 := ok.n
  have h2 := ok.s
  cases e : f.m with
  | none =>
    simp at p1 p2 p4
    simp [Gives, D_wrong_argument_frames, moD, anyK, p1, p2, p4, h1, h2]
  | some i =>
    obtain ⟨_, p3⟩ := (is_number_v (c := c) (i := i)).elim
    have h3 := ok.m i e
    simp at p1 p2 p3 p4
    simp [Gives, D_wrong_argument_frames, moD, anyK, p1, p2, p3, p4, h1, h2, h3]
theorem frame_init {c : Cl} {f : Fr} (ok : FrIn f) {d : D} (hd : d = .lst (f.ks.map knD) ∨ d = .tup (f.ks.map knD)) : GivesB 7 (fun ρ => D_Frame___init__ c (fillD 6 [] ρ)) (.ins c.Frame [] []) [.int f.n, .int f.s, moD f.m, .bl f.p, d] (.val .non) (frO c f) := by
  obtain ⟨_, p⟩ := (wrong_f_v (c := c) ok hd).elim
  have hz := ok.z
  have z : f.ks.length ≤ 16777216 := by omega
  simp at p
  rcases hd with rfl | rfl
  · simp [GivesB, D_Frame___init__, fillD, p, frO, z]
  · simp [GivesB, D_Frame___init__, fillD, p, frO, z]
end DL
set_option linter.all false
set_option maxRecDepth 100000
set_option maxHeartbeats 1000000
namespace DL
open PySem PySem.Spec PyProof.Rows L2 DD
abbrev SPC : Str := " "
abbrev Jn (l : List Str) : Str := Str.join SPC l
def Rj (l l' : List Str) : Prop := (l = [] ↔ l' = []) ∧ Jn l = Jn l'
theorem Rj.refl (l : List Str) : Rj l l := ⟨Iff.rfl, rfl⟩
theorem Rj.cons {l l' : List Str} (x : Str) (r : Rj l l') : Rj (x :: l) (x :: l') := by
  refine ⟨by simp, ?_⟩
  obtain ⟨r1, r2⟩ := r
  cases l with
  | nil =>
    obtain rfl := r1.mp rfl
    rfl
  | cons y l =>
    cases l' with
    | nil => exact absurd (r1.mpr rfl) (by simp)
    | cons y' l' =>
      show x ++ SPC ++ Jn (y :: l) = x ++ SPC ++ Jn (y' :: l')
      rw [r2]
end DL
set_option linter.all false
set_option maxRecDepth 100000
set_option maxHeartbeats 1000000
namespace DL
open PySem PySem.Spec PyProof.Rows L2 DD
@[simp] theorem q_dRng3 {T : En → Res (List X)} {ρ : En} : dRng3 T ρ = ((T ρ).bind fun xs ρ1 => lift ((derefs ρ1 xs).bind rng3D) ρ1) := rfl
end DL
set_option linter.all false
set_option maxRecDepth 100000
set_option maxHeartbeats 2000000
namespace DL
open PySem PySem.Spec PyProof.Rows L2 DD
end DL
set_option linter.all false
set_option maxRecDepth 100000
set_option maxHeartbeats 2000000
namespace DL
open PySem PySem.Spec PyProof.Rows L2 DD
theorem in_intsT {i : Int} {xs : List Int} : opInB (.int i) (.tup (xs.map D.int)) = some (decide (i ∈ xs)) := by
  show (if _ then some (inD (.int i) (xs.map D.int)) else _) = _
  rw [if_pos ⟨rfl, flat_i⟩, inD_i]
theorem lc_idI {L : List Int} {ρ : En} {i : Nat} {acc : List D} (h : ρ[i]? = some .none) (hz : L.length + acc.length ≤ 100000) : lcL [i] (uName i) tdYes (dVar i) (L.map D.int) ρ acc = .ok (acc ++ L.map D.int) ρ := by
  have := lc_fm (vs := [i]) (U := uName i) (T := tdYes) (A := dVar i) (enc := D.int) (fun x => some (D.int x)) (ρ := ρ) (L := L) (acc := acc) (fun x hx ds acc ha => by
    have ha' : acc.length < 16777216 := by omega
    obtain ⟨hi, h'⟩ := List.getElem?_eq_some_iff.mp h
    have e : ρ.set i .none = ρ := by
      rw [← h']
      exact List.set_getElem_self hi
    have e2 : (ρ.set i (.val (D.int x)))[i]? = some (.val (D.int x)) := List.getElem?_set_self hi
    have e3 : (Slot.none : Slot).free = true := rfl
    simp [lcL, h, ha', e, e2, e3]) hz
  rw [this]
  simp
theorem rng_ints {a : Int} {n : Nat} : ((List.range n).map fun i => D.int (a + (i : Nat))) = ((List.range n).map fun i => a + ((i : Nat) : Int)).map D.int := by
  rw [List.map_map]
  rfl
end DL
set_option linter.all false
set_option maxRecDepth 100000
set_option maxHeartbeats 2000000
namespace DL
open PySem PySem.Spec PyProof.Rows L2 DD
noncomputable def letsT (c : Cl) : En → SR := (sSeq (sForS (dFld [c.Day] "meetings" (dVar 1)) (uTup 3 (usCons (uName 3) (usCons (uName 4) (usCons (uName 5) usNil)))) (D_Frame_lets_b1 c)) (sSeq (sSet 2 (dProp c.Day 3 (D_Day_taken_2 c) (dVar 1))) (sRet (dCB fAll (aCons (dLcS (dFld [c.Frame] "known" (dVar 0)) [6, 7] (uTup 2 (usCons (uName 6) (usCons (uName 7) usNil))) tdYes (dBin opEq (dBin opIn (dVar 6) (dVar 2)) (dVar 7))) aNil)))))
theorem lets_eq {c : Cl} : D_Frame_lets c = (sSeq (sIf (tor (dTest (dBin opNe (dFld [c.Day, c.Frame] "length" (dVar 1)) (dFld [c.Day, c.Frame] "length" (dVar 0)))) (tnd (dTest (dNotN (dFld [c.Frame] "most" (dVar 0)))) (dTest (dBin opGt (dCB fLen (aCons (dFld [c.Day] "meetings" (dVar 1)) aNil)) (dFld [c.Frame] "most" (dVar 0)))))) (sRet (dC (.bl false))) sNext) (letsT c)) := rfl
end DL
set_option linter.all false
set_option maxRecDepth 100000
set_option maxHeartbeats 1000000
namespace DL
open PySem PySem.Spec PyProof.Rows L2 DD
end DL
set_option linter.all false
set_option maxRecDepth 100000
set_option maxHeartbeats 1000000
namespace DL
open PySem PySem.Spec PyProof.Rows L2 DD
end DL
set_option linter.all false
set_option maxRecDepth 100000
set_option maxHeartbeats 1000000
namespace DL
open PySem PySem.Spec PyProof.Rows L2 DD
end DL
set_option linter.all false
set_option maxRecDepth 100000
set_option maxHeartbeats 1000000
namespace DL
open PySem PySem.Spec PyProof.Rows L2 DD
end DL
set_option linter.all false
set_option maxRecDepth 100000
set_option maxHeartbeats 1000000
namespace DL
open PySem PySem.Spec PyProof.Rows L2 DD
end DL
set_option linter.all false
set_option maxRecDepth 100000
set_option maxHeartbeats 1000000
namespace DL
open PySem PySem.Spec PyProof.Rows L2 DD
theorem meets_le : ∀ {ms : List Mt} {a : Int}, 0 ≤ a → Meets a ms → ∀ m ∈ ms, 0 ≤ m.1 ∧ m.1 < m.2.1 ∧ m.2.1 ≤ endOf a ms
  | m :: ms, a, ha, h, x, hx => by
    have h1 := h.1
    have h2 := h.2.1
    have h3 : endOf a (m :: ms) = endOf m.2.1 ms := rfl
    have h4 := endOf_nonneg (a := m.2.1) (ms := ms) (by omega) h.2.2
    rw [h3]
    rcases List.mem_cons.mp hx with rfl | hx
    · exact ⟨by omega, by omega, h4⟩
    · exact meets_le (by omega) h.2.2 x hx
end DL
set_option linter.all false
set_option maxRecDepth 100000
set_option maxHeartbeats 1000000
namespace DL
open PySem PySem.Spec PyProof.Rows L2 DD
@[simp] theorem q_dIxO {C : Addr} {m : Nat} {T : En → SR} {A B : En → Res X} {ρ : En} : dIxO C m T A B ρ = ((A ρ).bind fun a ρ1 => (B ρ1).bind fun b ρ2 => match toVal ρ2 a.settle with
  | some (.ins C' ks es, ρ3) => match toVal ρ3 b.settle with
    | some (z, ρ4) => if C' = C then callV (fin (T (env0 m [.val (D.ins C' ks es), .val z]))) ρ4 else .stuck
    | none => .stuck
  | _ => .stuck) := rfl
theorem taken_loop2 {dv : Slot} : ∀ {ms : List Mt} {acc : List D}, (∀ m ∈ ms, MtSm2 m) → ms.length * 100 + acc.length ≤ 90000 →
    lc2L [1, 2] [2] (uName 1) tdYes (dRng2 (dBin opIx (dVar 1) (dC (.int 0))) (dBin opIx (dVar 1) (dC (.int 1)))) (uName 2) tdYes (dVar 2) (ms.map mtD) [dv, .none, .none] acc = .ok (acc ++ (ms.flatMap fun m => tk m.1 m.2.1).map D.int) [dv, .none, .none]
  | [], acc, _, _ => by simp [lc2L]
  | m :: ms, acc, h, hz => by
    obtain ⟨hb, he⟩ := h m List.mem_cons_self
    have hb1 := hb.1
    have hb2 := hb.2
    have he1 := he.1
    have he2 := he.2
    have r1 : -4611686018427387904 ≤ m.1 := by omega
    have r2 : m.1 < 4611686018427387904 := by omega
    have r3 : -4611686018427387904 ≤ m.2.1 := by omega
    have r4 : m.2.1 < 4611686018427387904 := by omega
    have rr := rng_ints (a := m.1) (n := (m.2.1 - m.1).toNat)
    have hl : (tk m.1 m.2.1).length ≤ 100 := by
      unfold tk
      simp
      omega
    rw [show ((List.range (m.2.1 - m.1).toNat).map fun i => m.1 + ((i : Nat) : Int)) = tk m.1 m.2.1 from rfl] at rr
    obtain ⟨M, hM⟩ : ∃ M, tk m.1 m.2.1 = M := ⟨_, rfl⟩
    rw [hM] at rr hl
    have i1 := lc_idI (L := M) (ρ := [dv, .val (mtD m), .none]) (i := 2) (acc := acc) rfl (by simp at hz; omega)
    have e := taken_loop2 (dv := dv) (ms := ms) (acc := acc ++ M.map D.int) (fun x hx => h x (List.mem_cons_of_mem _ hx)) (by simp at hz ⊢; omega)
    rw [List.map_cons, List.flatMap_cons, hM]
    unfold lc2L
    simp [mtD] at i1
    simp [mtD, r1, r2, r3, r4, rr, i1, e]
theorem flat_taken : ∀ {a n : Int} {ms : List Mt}, 0 ≤ a → Meets a ms → endOf a ms ≤ n → ((ms.flatMap fun m => tk m.1 m.2.1).length : Int) ≤ n - a
  | a, n, [], h0, _, he => by
    have : a ≤ n := he
    simp
    omega
  | a, n, m :: ms, h0, h, he => by
    have h1 := h.1
    have h2 := h.2.1
    have h3 := flat_taken (n := n) (by omega) h.2.2 he
    have h4 := tk_len (b := m.1) (e := m.2.1) (by omega)
    rw [List.flatMap_cons, List.length_append]
    omega
theorem taken_is {c : Cl} {n : Int} {ms : List Mt} (h : ∀ m ∈ ms, MtSm2 m) (hm : Meets 0 ms) (he : endOf 0 ms ≤ n) (hn : n ≤ 99) (hz : ms.length ≤ 100) : Gives 3 (D_Day_taken_2 c) [dvD c n ms] (.val (.tup ((ms.flatMap fun m => tk m.1 m.2.1).map D.int))) := by
  have e := taken_loop2 (dv := .val (dvD c n ms)) (ms := ms) (acc := []) h (by simp; omega)
  have f := flat_taken (Int.le_refl 0) hm he
  obtain ⟨L, hL⟩ : ∃ L, (ms.flatMap fun m => tk m.1 m.2.1) = L := ⟨_, rfl⟩
  rw [hL] at e f ⊢
  have z : L.length ≤ 16777216 := by omega
  simp [dvD] at e
  simp [Gives, D_Day_taken_2, dvD, e, z]
end DL
set_option linter.all false
set_option maxRecDepth 100000
set_option maxHeartbeats 1000000
namespace DL
open PySem PySem.Spec PyProof.Rows L2 DD
end DL
set_option linter.all false
set_option maxRecDepth 100000
set_option maxHeartbeats 1000000
namespace DL
open PySem PySem.Spec PyProof.Rows L2 DD
end DL
set_option linter.all false
set_option maxRecDepth 100000
set_option maxHeartbeats 2000000
namespace DL
open PySem PySem.Spec PyProof.Rows L2 DD
/-- a loop that goes on while a test holds, else returns -/
theorem forL_all {α : Type} {U : Tg} {B : En → SR} {enc : α → D} {x : X} (ok : α → Bool) : ∀ (L : List α) (W : Nat → En → Prop), (∀ i (hi : i < L.length) ρ, W i ρ → (ok L[i] = true → ∃ ρ2, stepL U B (enc L[i]) ρ = .nx ρ2 ∧ W (i + 1) ρ2) ∧ (ok L[i] = false → ∃ ρ2, stepL U B (enc L[i]) ρ = .rt x ρ2)) → ∀ {ρ : En}, W 0 ρ →
    (L.all ok = true → ∃ ρ2, forL U B (L.map enc) ρ = .nx ρ2 ∧ W L.length ρ2) ∧ (L.all ok = false → ∃ ρ2, forL U B (L.map enc) ρ = .rt x ρ2)
  | [], W, h, ρ, w => ⟨fun _ => ⟨ρ, rfl, w⟩, fun e => by simp at e⟩
  | a :: L, W, h, ρ, w => by
    have h0 := h 0 (by simp) ρ w
    rw [List.map_cons]
    unfold forL
    cases e : ok a with
    | true =>
      obtain ⟨ρ2, s, w2⟩ := h0.1 e
      have ih := forL_all ok L (fun i => W (i + 1)) (fun i hi ρ hw => by
        have := h (i + 1) (by simpa using hi) ρ hw
        simpa using this) w2
      unfold stepL at s
      change (match U (enc a) ρ with | none => SR.stuck | some ρ1 => B ρ1) = _ at s
      cases e1 : U (enc a) ρ with
      | none => rw [e1] at s; cases s
      | some ρ1 =>
        rw [e1] at s
        dsimp only at s ⊢
        rw [s]
        simpa [e] using ih
    | false =>
      obtain ⟨ρ2, s⟩ := h0.2 e
      unfold stepL at s
      change (match U (enc a) ρ with | none => SR.stuck | some ρ1 => B ρ1) = _ at s
      cases e1 : U (enc a) ρ with
      | none => rw [e1] at s; cases s
      | some ρ1 =>
        rw [e1] at s
        dsimp only at s ⊢
        rw [s]
        simp [e]
def takL (ms : List Mt) : List Int := ms.flatMap fun m => tk m.1 m.2.1
def fitB (f : Fr) (m : Mt) : Bool := decide (f.s ≤ m.2.1 - m.1) && (!m.2.2 || f.p)
def mostB (f : Fr) (k : Nat) : Bool := match f.m with
  | none => true
  | some i => decide ((k : Int) ≤ i)
def knB (f : Fr) (L : List Int) : Bool := (f.ks.map fun k => decide (decide (k.1 ∈ L) = k.2)).all id
def letsB (f : Fr) (n : Int) (ms : List Mt) : Bool := decide (n = f.n) && mostB f ms.length && ms.all (fitB f) && knB f (takL ms)
theorem allB_is : ∀ (L : List Bool), allB (L.map D.bl) = some L
  | [] => rfl
  | b :: L => by simp [allB, allB_is L]
theorem letsT_x {c : Cl} {f : Fr} {n : Int} {ms : List Mt} (h : ∀ m ∈ ms, MtSm2 m) (hm : Meets 0 ms) (he : endOf 0 ms ≤ n) (hn : n ≤ 99) (hz : ms.length ≤ 100) (hk : f.ks.length ≤ 100) :
    ∃ ρ' : En, letsT c [.val (fvD c f), .val (dvD c n ms), .none, .none, .none, .none, .none, .none] = .rt (.val (.bl (ms.all (fitB f) && knB f (takL ms)))) ρ' := by
  have loop := forL_all (U := uTup 3 (usCons (uName 3) (usCons (uName 4) (usCons (uName 5) usNil)))) (B := D_Frame_lets_b1 c) (enc := mtD) (x := .val (.bl false)) (fitB f) ms
    (fun _ ρ => ∃ s3 s4 s5 : Slot, ρ = [.val (fvD c f), .val (dvD c n ms), .none, s3, s4, s5, .none, .none] ∧ s3.free = true ∧ s4.free = true ∧ s5.free = true)
    (fun i hi ρ hw => by
      obtain ⟨s3, s4, s5, rfl, f3, f4, f5⟩ := hw
      generalize ms[i] = m
      generalize dvD c n ms = dd
      obtain ⟨a, b, w⟩ := m
      obtain ⟨n, s, mo, p, ks⟩ := f
      by_cases h : b - a < s
      · have h' : ¬ s ≤ b - a := by omega
        refine ⟨fun e => by simp [fitB, h'] at e, fun _ => ⟨[.val (fvD c ⟨n, s, mo, p, ks⟩), .val dd, .none, .val (.int a), .val (.int b), .val (.bl w), .none, .none], ?_⟩⟩
        simp [D_Frame_lets_b1, fvD, mtD, f3, f4, f5, h]
      · have h' : s ≤ b - a := by omega
        cases w
        · refine ⟨fun _ => ⟨[.val (fvD c ⟨n, s, mo, p, ks⟩), .val dd, .none, .val (.int a), .val (.int b), .val (.bl false), .none, .none], ?_, .val (.int a), .val (.int b), .val (.bl false), rfl, rfl, rfl, rfl⟩, fun e => by simp [fitB, h'] at e⟩
          simp [D_Frame_lets_b1, fvD, mtD, f3, f4, f5, h]
        · cases p
          · refine ⟨fun e => by simp [fitB] at e, fun _ => ⟨[.val (fvD c ⟨n, s, mo, false, ks⟩), .val dd, .none, .val (.int a), .val (.int b), .val (.bl true), .none, .none], ?_⟩⟩
            simp [D_Frame_lets_b1, fvD, mtD, f3, f4, f5, h]
          · refine ⟨fun _ => ⟨[.val (fvD c ⟨n, s, mo, true, ks⟩), .val dd, .none, .val (.int a), .val (.int b), .val (.bl true), .none, .none], ?_, .val (.int a), .val (.int b), .val (.bl true), rfl, rfl, rfl, rfl⟩, fun e => by simp [fitB, h'] at e⟩
            simp [D_Frame_lets_b1, fvD, mtD, f3, f4, f5, h]) (ρ := [.val (fvD c f), .val (dvD c n ms), .none, .none, .none, .none, .none, .none]) ⟨_, _, _, rfl, rfl, rfl, rfl⟩
  cases hall : ms.all (fitB f) with
  | true =>
    obtain ⟨ρ2, e, s3, s4, s5, rfl, f3, f4, f5⟩ := loop.1 hall
    obtain ⟨_, p⟩ := (taken_is (c := c) (n := n) h hm he hn hz).elim
    have hL : (ms.flatMap fun m => tk m.1 m.2.1) = takL ms := rfl
    rw [hL] at p
    generalize takL ms = L at *
    have lc : ∀ ρ : En, ρ = [.val (fvD c f), .val (dvD c n ms), .val (.tup (L.map D.int)), s3, s4, s5, .none, .none] → lcL [6, 7] (uTup 2 (usCons (uName 6) (usCons (uName 7) usNil))) tdYes (dBin opEq (dBin opIn (dVar 6) (dVar 2)) (dVar 7)) (f.ks.map knD) ρ [] = .ok ([] ++ f.ks.filterMap fun k => some (D.bl (decide (decide (k.1 ∈ L) = k.2)))) ρ := fun ρ hρ => by
      subst hρ
      refine lc_fm (enc := knD) (fun k => some (D.bl (decide (decide (k.1 ∈ L) = k.2)))) (fun k hk ds acc ha => ?_) (by simp; omega)
      have ha' : acc.length < 16777216 := by omega
      simp [lcL, tdYes, knD, in_intsT, ha']
    have l := lc _ rfl
    have e2 : (f.ks.filterMap fun k => some (D.bl (decide (decide (k.1 ∈ L) = k.2)))) = (f.ks.map fun k => (decide (decide (k.1 ∈ L) = k.2))).map D.bl := by
      rw [List.map_map]
      simp
      try rfl
    rw [e2] at l
    have e3 := allB_is (f.ks.map fun k => (decide (decide (k.1 ∈ L) = k.2)))
    have hkn : knB f L = (f.ks.map fun k => decide (decide (k.1 ∈ L) = k.2)).all id := rfl
    rw [hkn]
    generalize (f.ks.map fun k => decide (decide (k.1 ∈ L) = k.2)) = bs at *
    refine ⟨[.val (fvD c f), .val (dvD c n ms), .val (.tup (L.map D.int)), s3, s4, s5, .none, .none], ?_⟩
    simp [fvD, dvD] at e p l e3
    simp [letsT, fvD, dvD, e, p, l, e3, lcAll]
  | false =>
    obtain ⟨ρ2, e⟩ := loop.2 hall
    refine ⟨ρ2, ?_⟩
    simp [fvD, dvD] at e
    simp [letsT, fvD, dvD, e]
theorem lets_x {c : Cl} {f : Fr} {n : Int} {ms : List Mt} (h : ∀ m ∈ ms, MtSm2 m) (hm : Meets 0 ms) (he : endOf 0 ms ≤ n) (hn : n ≤ 99) (hz : ms.length ≤ 100) (hk : f.ks.length ≤ 100) : Gives 8 (D_Frame_lets c) [fvD c f, dvD c n ms] (.val (.bl (letsB f n ms))) := by
  obtain ⟨ρ', e⟩ := letsT_x (c := c) (f := f) h hm he hn hz hk
  unfold letsB
  generalize (knB f (takL ms)) = KB at *
  generalize ms.all (fitB f) = FB at *
  by_cases h1 : n = f.n
  · subst h1
    unfold mostB
    cases em : f.m with
    | none =>
      simp [fvD, dvD, em, moD] at e
      simp [Gives, lets_eq, fvD, dvD, em, moD, e]
    | some i =>
      have z1 : (ms.length : Int) < 9223372036854775808 := by omega
      by_cases h2 : i < ms.length
      · have h3 : ¬ (ms.length : Int) ≤ i := by omega
        simp [Gives, lets_eq, fvD, dvD, em, moD, h2, z1, h3]
      · have h3 : (ms.length : Int) ≤ i := by omega
        simp [fvD, dvD, em, moD] at e
        simp [Gives, lets_eq, fvD, dvD, em, moD, h2, z1, h3, e]
  · simp [Gives, lets_eq, fvD, dvD, h1]
end DL
set_option linter.all false
set_option maxRecDepth 100000
set_option maxHeartbeats 1000000
namespace DL
open PySem PySem.Spec PyProof.Rows L2 DD
end DL
set_option linter.all false
set_option maxRecDepth 100000
set_option maxHeartbeats 1000000
namespace DL
open PySem PySem.Spec PyProof.Rows L2 DD
end DL
set_option linter.all false
set_option maxRecDepth 100000
set_option maxHeartbeats 1000000
namespace DL
open PySem PySem.Spec PyProof.Rows L2 DD
/-- what meetings keep of a ground -/
def Fit (f : Fr) (m : Mt) : Prop := f.s ≤ m.2.1 - m.1 ∧ (m.2.2 = true → f.p = true)
/-- a row of a ground -/
structure Row (f : Fr) (ms : List Mt) : Prop where
  m : Meets 0 ms
  e : endOf 0 ms ≤ f.n
  x : ∀ m ∈ ms, Fit f m
theorem Meets.take : ∀ {ms : List Mt} {a : Int} (k : Nat), Meets a ms → Meets a (ms.take k)
  | [], a, k, h => by simp [Meets]
  | m :: ms, a, 0, h => trivial
  | m :: ms, a, k + 1, h => ⟨h.1, h.2.1, Meets.take k h.2.2⟩
theorem Row.take {f : Fr} {ms : List Mt} (h : Row f ms) (k : Nat) : Row f (ms.take k) :=
  ⟨h.m.take k, by have := endOf_le (i := k) h.m; have := h.e; omega, fun m hm => h.x m (List.mem_of_mem_take hm)⟩
theorem rgD_tk {a b : Int} : rgD a b = (tk a b).map D.int := by
  unfold rgD tk
  rw [List.map_map]
  rfl
end DL
set_option linter.all false
set_option maxRecDepth 100000
set_option maxHeartbeats 2000000
namespace DL
open PySem PySem.Spec PyProof.Rows L2 DD
noncomputable def D__law_is_let_p0 (c : Cl) (K : En → SR) : En → SR := (sSeq (sSet 2 (dLst aNil)) K)
noncomputable def D__law_is_let_p1 (c : Cl) (K : En → SR) : En → SR := (sSeq (sForS (dBin opIx (dVar 1) (dC (.int 1))) (uTup 3 (usCons (uName 3) (usCons (uName 4) (usCons (uName 5) usNil)))) (D__law_is_let_b1 c)) K)
noncomputable def D__law_is_let_p2 (c : Cl) : En → SR := (sSeq (sIf (tor (dTest (dBin opNe (dBin opIx (dVar 1) (dC (.int 0))) (dBin opIx (dVar 0) (dC (.int 0))))) (tnd (dTest (dNotN (dBin opIx (dVar 0) (dC (.int 2))))) (dTest (dBin opGt (dCB fLen (aCons (dBin opIx (dVar 1) (dC (.int 1))) aNil)) (dBin opIx (dVar 0) (dC (.int 2))))))) (sRet (dC (.bl false))) sNext) (sRet (dBin opEq (dLcS (dBin opIx (dVar 0) (dC (.int 4))) [6, 7] (uTup 2 (usCons (uName 6) (usCons (uName 7) usNil))) (dTest (dBin opNe (dBin opIn (dVar 6) (dVar 2)) (dVar 7))) (dVar 6)) (dLst aNil))))
theorem D__law_is_let_eq {c : Cl} : D__law_is_let c = (D__law_is_let_p0 c (D__law_is_let_p1 c (D__law_is_let_p2 c))) := rfl
def oddK (f : Fr) (L : List Int) : List Int := f.ks.filterMap fun k => if decide (k.1 ∈ L) = k.2 then none else some k.1
theorem oddK_nil {f : Fr} {L : List Int} : (oddK f L).isEmpty = knB f L := by
  unfold oddK knB
  induction f.ks with
  | nil => rfl
  | cons k ks ih =>
    by_cases h : decide (k.1 ∈ L) = k.2
    · simp [h]
      simpa using ih
    · simp [h]
theorem is_let_tail {c : Cl} {f : Fr} {n : Int} {ms : List Mt} {L : List Int} (hz : ms.length ≤ 100) (hk : f.ks.length ≤ 100) {s3 s4 s5 : Slot} :
    ∃ ρ' : En, D__law_is_let_p2 c [.val (frD f), .val (.tup [.int n, .lst (ms.map mtD)]), .own (.lst (L.map D.int)), s3, s4, s5, .none, .none] = .rt (.val (.bl (decide (n = f.n) && mostB f ms.length && knB f L))) ρ' := by
  have lc : ∀ ρ : En, ρ = [.val (frD f), .val (.tup [.int n, .lst (ms.map mtD)]), .own (.lst (L.map D.int)), s3, s4, s5, .none, .none] → lcL [6, 7] (uTup 2 (usCons (uName 6) (usCons (uName 7) usNil))) (dTest (dBin opNe (dBin opIn (dVar 6) (dVar 2)) (dVar 7))) (dVar 6) (f.ks.map knD) ρ [] = .ok ([] ++ f.ks.filterMap fun k => if decide (k.1 ∈ L) = k.2 then none else some (D.int k.1)) ρ := fun ρ hρ => by
    subst hρ
    refine lc_fm (enc := knD) (fun k => if decide (k.1 ∈ L) = k.2 then none else some (D.int k.1)) (fun k hk ds acc ha => ?_) (by simp; omega)
    have ha' : acc.length < 16777216 := by omega
    by_cases h : decide (k.1 ∈ L) = k.2
    · simp [lcL, knD, in_ints, ha', h]
    · simp [lcL, knD, in_ints, ha', h]
  have l := lc _ rfl
  have e2 : (f.ks.filterMap fun k => if decide (k.1 ∈ L) = k.2 then none else some (D.int k.1)) = (oddK f L).map D.int := by
    unfold oddK
    rw [List.map_filterMap]
    congr 1
    funext k
    split <;> rfl
  rw [e2] at l
  have en := eqB_ints_nil (oddK f L)
  have ek := oddK_nil (f := f) (L := L)
  rw [ek] at en
  generalize oddK f L = odd at *
  generalize knB f L = KB at *
  generalize L.map D.int = LD at *
  generalize odd.map D.int = OD at *
  by_cases h1 : n = f.n
  · subst h1
    unfold mostB
    cases em : f.m with
    | none =>
      refine ⟨[.val (frD f), .val (.tup [.int f.n, .lst (ms.map mtD)]), .own (.lst LD), s3, s4, s5, .none, .none], ?_⟩
      · simp [frD, em, moD] at l
        simp [D__law_is_let_p2, frD, em, moD, l, en, lcAll]
    | some i =>
      have z1 : (ms.length : Int) < 9223372036854775808 := by omega
      by_cases h2 : i < ms.length
      · have h3 : ¬ (ms.length : Int) ≤ i := by omega
        refine ⟨[.val (frD f), .val (.tup [.int f.n, .lst (ms.map mtD)]), .own (.lst LD), s3, s4, s5, .none, .none], ?_⟩
        · simp [D__law_is_let_p2, frD, em, moD, h2, z1, h3]
      · have h3 : (ms.length : Int) ≤ i := by omega
        refine ⟨[.val (frD f), .val (.tup [.int f.n, .lst (ms.map mtD)]), .own (.lst LD), s3, s4, s5, .none, .none], ?_⟩
        · simp [frD, em, moD] at l
          simp [D__law_is_let_p2, frD, em, moD, h2, z1, h3, l, en, lcAll]
  · refine ⟨[.val (frD f), .val (.tup [.int n, .lst (ms.map mtD)]), .own (.lst LD), s3, s4, s5, .none, .none], ?_⟩
    · simp [D__law_is_let_p2, frD, h1]
theorem is_let_x {c : Cl} {f : Fr} {n : Int} {ms : List Mt} (hm : Meets 0 ms) (he : endOf 0 ms ≤ n) (hn : n ≤ 99) (hz : ms.length ≤ 100) (hk : f.ks.length ≤ 100) : Gives 8 (D__law_is_let c) [frD f, .tup [.int n, .lst (ms.map mtD)]] (.val (.bl (letsB f n ms))) := by
  have hle := meets_le (Int.le_refl 0) hm
  have loop := forL_all (U := uTup 3 (usCons (uName 3) (usCons (uName 4) (usCons (uName 5) usNil)))) (B := D__law_is_let_b1 c) (enc := mtD) (x := .val (.bl false)) (fitB f) ms
    (fun i ρ => ∃ s3 s4 s5 : Slot, ρ = [.val (frD f), .val (.tup [.int n, .lst (ms.map mtD)]), .own (.lst ((takL (ms.take i)).map D.int)), s3, s4, s5, .none, .none] ∧ s3.free = true ∧ s4.free = true ∧ s5.free = true)
    (fun i hi ρ hw => by
      obtain ⟨s3, s4, s5, rfl, f3, f4, f5⟩ := hw
      obtain ⟨g1, g2, g3⟩ := hle ms[i] (List.getElem_mem hi)
      have fl := flat_taken (Int.le_refl 0) (hm.take i) (n := n) (by have := endOf_le (i := i) hm; omega)
      have e1 : takL (ms.take (i + 1)) = takL (ms.take i) ++ tk ms[i].1 ms[i].2.1 := by
        rw [List.take_add_one, List.getElem?_eq_getElem hi]
        unfold takL
        rw [List.flatMap_append]
        simp
      have hfl : (takL (ms.take i)).length ≤ 99 := by
        have : (takL (ms.take i)) = (ms.take i).flatMap fun m => tk m.1 m.2.1 := rfl
        rw [this]
        omega
      have htl := tk_len (b := ms[i].1) (e := ms[i].2.1) (by omega)
      have hsz : (takL (ms.take i)).length + (tk ms[i].1 ms[i].2.1).length ≤ 16777216 := by omega
      have hrg : RgOk ms[i].1 ms[i].2.1 := by
        unfold RgOk
        omega
      rw [e1, List.map_append]
      generalize takL (ms.take i) = TL at *
      generalize ms[i] = m at *
      generalize (D.tup [.int n, .lst (ms.map mtD)]) = dd
      obtain ⟨a, b, w⟩ := m
      dsimp only at g1 g2 g3 htl hsz hrg ⊢
      have ert := rgD_tk (a := a) (b := b)
      have hsz' : TL.length + (rgD a b).length ≤ 16777216 := by rw [ert, List.length_map]; exact hsz
      rw [← ert]
      obtain ⟨fn, s, mo, p, ks⟩ := f
      obtain ⟨RD, hRD⟩ : ∃ RD, rgD a b = RD := ⟨_, rfl⟩
      rw [hRD] at hsz' ⊢
      by_cases h : b - a < s
      · have h' : ¬ s ≤ b - a := by omega
        refine ⟨fun e => by simp [fitB, h'] at e, fun _ => ⟨[.val (frD ⟨fn, s, mo, p, ks⟩), .val dd, .own (.lst (TL.map D.int ++ RD)), .val (.int a), .val (.int b), .val (.bl w), .none, .none], ?_⟩⟩
        simp [D__law_is_let_b1, frD, mtD, f3, f4, f5, h, hrg, hRD, hsz']
      · have h' : s ≤ b - a := by omega
        cases w
        · refine ⟨fun _ => ⟨[.val (frD ⟨fn, s, mo, p, ks⟩), .val dd, .own (.lst (TL.map D.int ++ RD)), .val (.int a), .val (.int b), .val (.bl false), .none, .none], ?_, .val (.int a), .val (.int b), .val (.bl false), rfl, rfl, rfl, rfl⟩, fun e => by simp [fitB, h'] at e⟩
          simp [D__law_is_let_b1, frD, mtD, f3, f4, f5, h, hrg, hRD, hsz']
        · cases p
          · refine ⟨fun e => by simp [fitB] at e, fun _ => ⟨[.val (frD ⟨fn, s, mo, false, ks⟩), .val dd, .own (.lst (TL.map D.int ++ RD)), .val (.int a), .val (.int b), .val (.bl true), .none, .none], ?_⟩⟩
            simp [D__law_is_let_b1, frD, mtD, f3, f4, f5, h, hrg, hRD, hsz']
          · refine ⟨fun _ => ⟨[.val (frD ⟨fn, s, mo, true, ks⟩), .val dd, .own (.lst (TL.map D.int ++ RD)), .val (.int a), .val (.int b), .val (.bl true), .none, .none], ?_, .val (.int a), .val (.int b), .val (.bl true), rfl, rfl, rfl, rfl⟩, fun e => by simp [fitB, h'] at e⟩
            simp [D__law_is_let_b1, frD, mtD, f3, f4, f5, h, hrg, hRD, hsz']) (ρ := [.val (frD f), .val (.tup [.int n, .lst (ms.map mtD)]), .own (.lst []), .none, .none, .none, .none, .none]) ⟨_, _, _, rfl, rfl, rfl, rfl⟩
  unfold letsB
  cases hall : ms.all (fitB f) with
  | true =>
    obtain ⟨ρ2, e, s3, s4, s5, rfl, f3, f4, f5⟩ := loop.1 hall
    rw [List.take_length] at e
    obtain ⟨ρ3, t⟩ := is_let_tail (c := c) (f := f) (n := n) (ms := ms) (L := takL ms) hz hk (s3 := s3) (s4 := s4) (s5 := s5)
    rw [Bool.and_true]
    generalize (decide (n = f.n) && mostB f ms.length && knB f (takL ms)) = R at *
    generalize (takL ms).map D.int = TD at *
    generalize frD f = FD at *
    generalize ms.map mtD = MD at *
    simp [Gives, D__law_is_let_eq, D__law_is_let_p0, D__law_is_let_p1, e, t]
  | false =>
    obtain ⟨ρ2, e⟩ := loop.2 hall
    rw [Bool.and_false, Bool.false_and]
    generalize frD f = FD at *
    generalize ms.map mtD = MD at *
    simp [Gives, D__law_is_let_eq, D__law_is_let_p0, D__law_is_let_p1, e]
end DL
set_option linter.all false
set_option maxRecDepth 100000
set_option maxHeartbeats 2000000
namespace DL
open PySem PySem.Spec PyProof.Rows L2 DD
theorem meets_wk {a b N : Int} {r : List Mt} (h : Meets a r) (he : endOf a r ≤ N) (hb : b ≤ a) (hN : b ≤ N) : Meets b r ∧ endOf b r ≤ N := by
  cases r with
  | nil => exact ⟨trivial, hN⟩
  | cons m r => exact ⟨⟨by have := h.1; omega, h.2.1, h.2.2⟩, he⟩
theorem tab_ok {n : Nat} {s : Bool} : ∀ i, i ≤ n → ∀ (j : Nat) row, (tab n s i)[j]? = some row → ∀ r ∈ row, Meets ((n : Int) - i + j) r ∧ endOf ((n : Int) - i + j) r ≤ n
  | 0, _, j, row, h, r, hr => by
    cases j with
    | zero =>
      simp [tab] at h
      subst h
      simp at hr
      subst hr
      exact ⟨trivial, by show (n : Int) - _ + _ ≤ n; omega⟩
    | succ j => simp [tab] at h
  | i + 1, hi, j, row, h, r, hr => by
    rw [tab] at h
    cases j with
    | succ j =>
      have := tab_ok (n := n) (s := s) i (by omega) j row (by simpa using h) r hr
      have e : (n : Int) - ((i + 1 : Nat) : Int) + ((j + 1 : Nat) : Int) = (n : Int) - i + j := by omega
      rw [e]
      exact this
    | zero =>
      simp at h
      subst h
      unfold grown at hr
      rcases List.mem_append.mp hr with h1 | h1
      · cases e : tab n s i with
        | nil => rw [e] at h1; simp at h1
        | cons x T =>
          rw [e] at h1
          have := tab_ok (n := n) (s := s) i (by omega) 0 x (by rw [e]; rfl) r h1
          exact meets_wk this.1 this.2 (by omega) (by omega)
      · obtain ⟨j, hj, h2⟩ := List.mem_flatMap.mp h1
        obtain ⟨b, _, h3⟩ := List.mem_flatMap.mp h2
        unfold rowsOf at h3
        obtain ⟨z, hz, rfl⟩ := List.mem_map.mp h3
        cases e : (tab n s i)[j]? with
        | none => rw [e] at hz; simp at hz
        | some x =>
          rw [e] at hz
          have := tab_ok (n := n) (s := s) i (by omega) j x e z hz
          have e2 : (n : Int) - 1 - i + 1 + j = (n : Int) - i + j := by omega
          refine ⟨⟨by dsimp only; omega, by dsimp only; omega, ?_⟩, ?_⟩
          · dsimp only
            rw [e2]
            exact this.1
          · show endOf ((n : Int) - 1 - i + 1 + j) z ≤ n
            rw [e2]
            exact this.2
def allD (n : Int) (s : Bool) : List (List Mt) := (tab n.toNat s n.toNat).headD []
theorem allD_ok {n : Int} {s : Bool} (h0 : 0 ≤ n) {r : List Mt} (hr : r ∈ allD n s) : Meets 0 r ∧ endOf 0 r ≤ n ∧ (r.length : Int) ≤ n := by
  unfold allD at hr
  cases e : tab n.toNat s n.toNat with
  | nil => rw [e] at hr; simp at hr
  | cons x T =>
    rw [e] at hr
    have h1 := tab_ok (n := n.toNat) (s := s) n.toNat (Nat.le_refl _) 0 x (by rw [e]; rfl) r hr
    have h2 := tab_r_len (n := n.toNat) (s := s) n.toNat x (by rw [e]; simp) r hr
    have e2 : ((n.toNat : Nat) : Int) - (n.toNat : Nat) + ((0 : Nat) : Int) = 0 := by omega
    rw [e2] at h1
    exact ⟨h1.1, by have := h1.2; omega, by omega⟩
def dayT (n : Int) (ms : List Mt) : D := .tup [.int n, .lst (ms.map mtD)]
theorem rowT_mt (r : List Mt) : rowT r = .tup (r.map mtD) := rfl
theorem all_days_v {c : Cl} {n : Int} {s : Bool} (h0 : 1 ≤ n) (h1 : n ≤ 5) : Gives 8 (D__law_all_days c) [.int n, .bl s] (.new (.lst ((allD n s).map (dayT n)))) := by
  have r1 : -4611686018427387904 ≤ n := by omega
  have r2 : n < 4611686018427387904 := by omega
  have l1 : lcL [3] (uName 3) tdYes (dLst aNil) ((List.range n.toNat).map fun i => D.int (i : Nat)) [.val (.int n), .val (.bl s), .none, .none, .none, .none, .none, .none] [] = .ok ([] ++ (List.range n.toNat).filterMap fun _ => some (D.lst [])) [.val (.int n), .val (.bl s), .none, .none, .none, .none, .none, .none] :=
    lc_fm (enc := fun i : Nat => D.int (i : Nat)) (fun _ => some (D.lst [])) (fun i hi ds acc ha => by
      have ha' : acc.length < 16777216 := by omega
      simp [lcL, tdYes, ha']) (by simp; omega)
  have e1 : ((List.range n.toNat).filterMap fun _ => some (D.lst [])) = List.replicate n.toNat (.lst []) := by
    have := fm_const (d := D.lst []) (List.range n.toNat)
    rw [List.length_range] at this
    exact this
  rw [e1, List.nil_append] at l1
  have hw0 : List.replicate n.toNat (D.lst []) ++ [D.lst [D.tup []]] = wholeD n.toNat s 0 := by
    unfold wholeD
    rfl
  have hrows := fun r (hr : r ∈ allD n s) => (allD_ok (by omega) hr).2.2
  have hwl : (allD n s).length ≤ 10395 := by
    unfold allD
    cases e : tab n.toNat s n.toNat with
    | nil => simp
    | cons x T =>
      have := tab_row_len (n := n.toNat) (s := s) n.toNat x (by rw [e]; simp)
      have b7 : bnd n.toNat ≤ bnd 5 := bnd_mono (by omega)
      have : bnd 5 = 10395 := by decide
      show x.length ≤ _
      omega
  have hwN : ∃ W, wholeD n.toNat s n.toNat = .lst ((allD n s).map rowT) :: W := by
    unfold wholeD allD
    rw [Nat.sub_self]
    cases e : tab n.toNat s n.toNat with
    | nil => have := tab_len (n := n.toNat) (s := s) n.toNat; rw [e] at this; simp at this
    | cons x T => exact ⟨_, rfl⟩
  obtain ⟨W, hW⟩ := hwN
  have l2 : lcL [6] (uName 6) tdYes (dTup (aCons (dVar 0) (aCons (dCB fList (aCons (dVar 6) aNil)) aNil))) ((allD n s).map rowT) [.val (.int n), .val (.bl s), .own (.lst (.lst ((allD n s).map rowT) :: W)), .none, .none, .none, .none, .none] [] = .ok ([] ++ (allD n s).filterMap fun r => some (dayT n r)) [.val (.int n), .val (.bl s), .own (.lst (.lst ((allD n s).map rowT) :: W)), .none, .none, .none, .none, .none] :=
    lc_fm (enc := rowT) (fun r => some (dayT n r)) (fun r hr ds acc ha => by
      have ha' : acc.length < 16777216 := by omega
      generalize (D.lst ((allD n s).map rowT) :: W) = WW
      simp [lcL, tdYes, ha', rowT_mt, dayT]) (by simp; omega)
  have e2 : ((allD n s).filterMap fun r => some (dayT n r)) = (allD n s).map (dayT n) := by
    rw [← List.filterMap_eq_map]
    rfl
  rw [e2, List.nil_append] at l2
  have sA : sAllDays [.val (.int n), .val (.bl s), .own (.lst (wholeD n.toNat s 0)), .none, .none, .none, .none, .none] = .nx [.val (.int n), .val (.bl s), .own (.lst (.lst ((allD n s).map rowT) :: W)), .none, .none, .none, .none, .none] := by
    have hc : n = (n.toNat : Int) ∧ n.toNat ≤ 7 ∧ wholeD n.toNat s 0 = wholeD n.toNat s 0 := ⟨by omega, by omega, rfl⟩
    unfold sAllDays
    dsimp only
    rw [if_pos hc, hW]
  have z1 : n.toNat + 1 ≤ 16777216 := by omega
  rw [← hw0] at sA
  generalize (allD n s).map (dayT n) = OUT at *
  generalize (allD n s).map rowT = RW at *
  simp [Gives, D__law_all_days, l1, lcAll, r1, r2, z1, sA, l2]
end DL
set_option linter.all false
set_option maxRecDepth 100000
set_option maxHeartbeats 2000000
namespace DL
open PySem PySem.Spec PyProof.Rows L2 DD
theorem frame_of_r {c : Cl} {f : Fr} (ok : FrIn f) : Gives 1 (D__law_frame_of c) [frD f] (.new (frO c f)) := by
  obtain ⟨_, p, q⟩ := (frame_init (c := c) ok (.inl rfl)).elim
  simp at p
  simp [Gives, D__law_frame_of, frD, p, q]
theorem sm2_of {n : Int} {ms : List Mt} (hm : Meets 0 ms) (he : endOf 0 ms ≤ n) (hn : n ≤ 99) : ∀ m ∈ ms, MtSm2 m := fun m h => by
  obtain ⟨h1, h2, h3⟩ := meets_le (Int.le_refl 0) hm m h
  exact ⟨⟨by omega, by omega⟩, ⟨by omega, by omega⟩⟩
theorem b1_v {c : Cl} {f : Fr} {n : Int} {ms : List Mt} (h1 : 1 ≤ n) (hm : Meets 0 ms) (he : endOf 0 ms ≤ n) (hn : n ≤ 99) (hz : ms.length ≤ 100) (hk : f.ks.length ≤ 100) {v0 v1 v2 v3 s5 s7 s8 : Slot} (h5 : s5 = .own (frO c f) ∨ s5 = .val (fvD c f)) :
    D_law_b1 c [v0, v1, v2, v3, .val (frD f), s5, .val (dayT n ms), s7, s8] = .nx [v0, v1, v2, v3, .val (frD f), .val (fvD c f), .val (dayT n ms), s7, s8] := by
  obtain ⟨_, p1⟩ := (lets_x (c := c) (f := f) (sm2_of hm he hn) hm he hn hz hk).elim
  obtain ⟨_, p2⟩ := (is_let_x (c := c) (f := f) hm he hn hz hk).elim
  obtain ⟨_, p3, q3⟩ := (day_init (c := c) h1 hm he (.inl rfl)).elim
  have hd : dayT n ms = .tup [.int n, .lst (ms.map mtD)] := rfl
  rw [← hd] at p2
  generalize letsB f n ms = B at *
  generalize frD f = FD at *
  simp only [frO, fvD] at h5
  simp only [fvD] at p1 ⊢
  simp only [dayT] at p2 ⊢
  simp only [dvD, dyO] at p1 p3 q3
  generalize ms.map mtD = MD at *
  simp at p1 p2 p3
  cases B <;> rcases h5 with rfl | rfl <;> simp [D_law_b1, p1, p2, p3, q3]
theorem days_loop {c : Cl} {f : Fr} {n : Int} (h1 : 1 ≤ n) (hn : n ≤ 5) (hk : f.ks.length ≤ 100) {v0 v1 v2 v3 s6 s7 s8 : Slot} (f6 : s6.free = true) : ∃ t5 t6 : Slot, t5.free = true ∧ t6.free = true ∧
    forL (uName 6) (D_law_b1 c) ((allD n true).map (dayT n)) [v0, v1, v2, v3, .val (frD f), .own (frO c f), s6, s7, s8] = .nx [v0, v1, v2, v3, .val (frD f), t5, t6, s7, s8] := by
  obtain ⟨ρ', e, s5, s6, rfl, h5, g6⟩ := forL_inv (U := uName 6) (B := D_law_b1 c) (ds := (allD n true).map (dayT n)) (fun i ρ => ∃ s5 s6 : Slot, ρ = [v0, v1, v2, v3, .val (frD f), s5, s6, s7, s8] ∧ (s5 = .own (frO c f) ∨ s5 = .val (fvD c f)) ∧ s6.free = true) (fun i hi ρ hw => by
    obtain ⟨s5, s6, rfl, h5, f6⟩ := hw
    have hi2 : i < (allD n true).length := by simpa using hi
    obtain ⟨a1, a2, a3⟩ := allD_ok (n := n) (s := true) (by omega) (List.getElem_mem hi2)
    rw [List.getElem_map]
    generalize (allD n true)[i] = ms at *
    have e := b1_v (c := c) (f := f) h1 a1 a2 (by omega) (by omega) hk (v0 := v0) (v1 := v1) (v2 := v2) (v3 := v3) (s7 := s7) (s8 := s8) h5
    have st : stepL (uName 6) (D_law_b1 c) (dayT n ms) [v0, v1, v2, v3, .val (frD f), s5, s6, s7, s8] = D_law_b1 c [v0, v1, v2, v3, .val (frD f), s5, .val (dayT n ms), s7, s8] := by
      generalize D_law_b1 c = BB
      generalize frD f = G
      generalize dayT n ms = DT
      simp [f6]
    rw [e] at st
    exact ⟨_, .inl st, _, _, rfl, .inr rfl, rfl⟩) (ρ := [v0, v1, v2, v3, .val (frD f), .own (frO c f), s6, s7, s8]) ⟨_, _, rfl, .inl rfl, f6⟩
  exact ⟨s5, s6, by rcases h5 with rfl | rfl <;> rfl, g6, e⟩
theorem b2_v {c : Cl} {b : Int × Int} {v0 v1 v3 s4 s5 s6 s7 s8 : Slot} (f4 : s4.free = true) (f5 : s5.free = true) (f6 : s6.free = true) : ∃ (b' : Int × Int) (t4 t5 t6 : Slot), D_law_b2 c [v0, v1, .own (box b), v3, s4, s5, s6, s7, s8] = .nx [v0, v1, .own (box b'), v3, t4, t5, t6, s7, s8] ∧ t4.free = true ∧ t5.free = true ∧ t6.free = true := by
  obtain ⟨f, b1, g1, ok, hfn, hfs, hfm, hfk⟩ := frame_gives (c := c) b (top := 4) (by omega) (by omega)
  have h1 := ok.n
  obtain ⟨_, p1, q1⟩ := g1.elim
  obtain ⟨_, p2⟩ := (frame_of_r (c := c) ok).elim
  obtain ⟨_, p3⟩ := (all_days_v (c := c) (n := f.n) (s := true) h1 (by omega)).elim
  obtain ⟨t5, t6, g5, g6, e⟩ := days_loop (c := c) (f := f) (n := f.n) h1 (by omega) (by omega) (v0 := v0) (v1 := v1) (v2 := .own (box b1)) (v3 := v3) (s6 := s6) (s7 := s7) (s8 := s8) f6
  refine ⟨b1, .val (frD f), t5, t6, ?_, rfl, g5, g6⟩
  obtain ⟨a2, a3, a4, a5, hgx⟩ : ∃ a2 a3 a4 a5, frD f = .tup [.int f.n, a2, a3, a4, a5] := ⟨_, _, _, _, rfl⟩
  generalize (allD f.n true).map (dayT f.n) = DS at *
  rw [hgx] at p1 p2 e ⊢
  simp only [frO] at p2 e
  simp at p1 p2 p3 e
  simp [D_law_b2, f4, f5, p1, q1, p2, p3, e]
end DL
set_option linter.all false
set_option maxRecDepth 100000
set_option maxHeartbeats 2000000
namespace DL
open PySem PySem.Spec PyProof.Rows L2 DD
noncomputable def D_law_b3_p0 (c : Cl) (K : En → SR) : En → SR := (sSeq (sMulti [4, 6] (nCons (dLend 3 7 (D__law_frame c) 2 (aCons (dC (.int 24)) (aCons (dC (.bl true)) aNil))) (nCons (dLend 3 9 (D__law_day c) 2 (aCons (dC (.int 24)) (aCons (dC (.bl true)) aNil))) aNil))) (sSeq (sSet 4 (dTup (aCons (dBin opIx (dVar 6) (dC (.int 0))) (aCons (dBin opIx (dVar 4) (dC (.int 1))) (aCons (dBin opIx (dVar 4) (dC (.int 2))) (aCons (dBin opIx (dVar 4) (dC (.int 3))) (aCons (dLcS (dBin opIx (dVar 4) (dC (.int 4))) [8] (uName 8) (dTest (dBin opLt (dBin opIx (dVar 8) (dC (.int 0))) (dBin opIx (dVar 6) (dC (.int 0))))) (dVar 8)) aNil))))))) K))
noncomputable def D_law_b3_p1 (c : Cl) (K : En → SR) : En → SR := (sSeq (sIf (dTest (dBin opNe (dCB fRepr (aCons (dMeth c.Frame "lets" 2 8 (D_Frame_lets c) (dCall 1 1 (D__law_frame_of c) (aCons (dVar 4) aNil)) (aCons (dMake c.Day 3 3 (fun ρ => D_Day___init__ c (fillD 3 [] ρ)) (aCons (dBin opIx (dVar 6) (dC (.int 0))) (aCons (dBin opIx (dVar 6) (dC (.int 1))) aNil))) aNil)) aNil)) (dCB fRepr (aCons (dCall 2 8 (D__law_is_let c) (aCons (dVar 4) (aCons (dVar 6) aNil))) aNil)))) (sRet (dC (.bl false))) sNext) K)
noncomputable def D_law_b3_p2 (c : Cl) : En → SR := (sSeq (sSet 7 (dBin opAdd (dTup (aCons (dCB fMin (aCons (dC (.int 24)) (aCons (dCB fInt (aCons (dBin opAdd (dBin opIx (dVar 6) (dC (.int 0))) (dC (.int 1))) aNil)) aNil))) aNil)) (dSl (dVar 4) (oSome (dC (.int 1))) oNone))) (sIf (tnd (dTest (dBin opLt (dBin opIx (dVar 6) (dC (.int 0))) (dC (.int 24)))) (dTest (dMeth c.Frame "lets" 2 8 (D_Frame_lets c) (dCall 1 1 (D__law_frame_of c) (aCons (dVar 7) aNil)) (aCons (dMake c.Day 3 3 (fun ρ => D_Day___init__ c (fillD 3 [] ρ)) (aCons (dBin opIx (dVar 6) (dC (.int 0))) (aCons (dBin opIx (dVar 6) (dC (.int 1))) aNil))) aNil)))) (sRet (dC (.bl false))) sNext))
theorem D_law_b3_eq {c : Cl} : D_law_b3 c = (D_law_b3_p0 c (D_law_b3_p1 c (D_law_b3_p2 c))) := rfl
/-- the frame with the day's length, and of the known ticks those in it -/
def cutF (f : Fr) (n : Int) : Fr := ⟨n, f.s, f.m, f.p, f.ks.filter fun k => decide (k.1 < n)⟩
theorem cutF_in {f : Fr} {n : Int} (ok : FrIn f) (h : 1 ≤ n) : FrIn (cutF f n) := ⟨h, ok.s, ok.m, fun x hx => by
  obtain ⟨h1, h2⟩ := List.mem_filter.mp hx
  exact ⟨(ok.k x h1).1, of_decide_eq_true h2⟩, Nat.le_trans (List.length_filter_le _ _) ok.z⟩
def wideF (f : Fr) (n : Int) : Fr := ⟨n, f.s, f.m, f.p, f.ks⟩
theorem p0_v {c : Cl} {K : En → SR} {b : Int × Int} {v0 v1 v3 s4 s5 s6 s7 : Slot} (f4 : s4.free = true) (f6 : s6.free = true) : ∃ (b' : Int × Int) (f : Fr) (n : Int) (ms : List Mt), FrIn f ∧ f.ks.length ≤ 2 ∧ 1 ≤ n ∧ n ≤ 24 ∧ Meets 0 ms ∧ endOf 0 ms ≤ n ∧ ms.length ≤ 8 ∧
    D_law_b3_p0 c K [v0, v1, .own (box b), v3, s4, s5, s6, s7, .none] = K [v0, v1, .own (box b'), v3, .val (frD (cutF f n)), s5, .val (dayT n ms), s7, .none] := by
  obtain ⟨f, b1, g1, ok, hfn, hfs, hfm, hfk⟩ := frame_gives (c := c) b (top := 24) (by omega) (by omega)
  obtain ⟨n, ms, b2, g2, n0, n1, hm, he, hz⟩ := day_gives (c := c) b1 (top := 24) (s := true) (by omega) (by omega)
  obtain ⟨_, p1, q1⟩ := g1.elim
  obtain ⟨_, p2, q2⟩ := g2.elim
  refine ⟨b2, f, n, ms, ok, hfk, n0, n1, hm, he, hz, ?_⟩
  have l : lcL [8] (uName 8) (dTest (dBin opLt (dBin opIx (dVar 8) (dC (.int 0))) (dBin opIx (dVar 6) (dC (.int 0))))) (dVar 8) (f.ks.map knD) [v0, v1, .own (box b2), v3, .val (frD f), s5, .val (dayT n ms), s7, .none] [] = .ok ([] ++ f.ks.filterMap fun k => if k.1 < n then some (knD k) else none) [v0, v1, .own (box b2), v3, .val (frD f), s5, .val (dayT n ms), s7, .none] :=
    lc_fm (enc := knD) (fun k => if k.1 < n then some (knD k) else none) (fun k hk ds acc ha => by
      have ha' : acc.length < 16777216 := by omega
      generalize frD f = FD
      generalize ms.map mtD = MD
      by_cases h : k.1 < n <;> simp [lcL, knD, dayT, ha', h]) (by simp; omega)
  have e : (f.ks.filterMap fun k => if k.1 < n then some (knD k) else none) = (cutF f n).ks.map knD := by
    unfold cutF
    dsimp only
    induction f.ks with
    | nil => rfl
    | cons k ks ih =>
      by_cases h : k.1 < n
      · simp [h, ih]
      · simp [h, ih]
  rw [e, List.nil_append] at l
  have hcf : frD (cutF f n) = .tup [.int n, .int f.s, moD f.m, .bl f.p, .lst ((cutF f n).ks.map knD)] := rfl
  rw [hcf]
  simp only [dayT] at l ⊢
  simp only [frD] at p1 l
  generalize (cutF f n).ks.map knD = CK at *
  generalize ms.map mtD = MD at *
  generalize f.ks.map knD = FK at *
  generalize moD f.m = FM at *
  simp at p1 p2 l
  simp [D_law_b3_p0, f4, f6, p1, q1, p2, q2, l, lcAll]
theorem repr_b {b : Bool} : ∃ z : Str, fRepr [.bl b] = some (.val (.str z)) := by
  cases b <;> exact ⟨_, rfl⟩
theorem p1_v {c : Cl} {K : En → SR} {f : Fr} {n : Int} {ms : List Mt} (ok : FrIn f) (h1 : 1 ≤ n) (hm : Meets 0 ms) (he : endOf 0 ms ≤ n) (hn : n ≤ 99) (hz : ms.length ≤ 100) (hk : f.ks.length ≤ 100) {v0 v1 v2 v3 s5 s7 : Slot} :
    D_law_b3_p1 c K [v0, v1, v2, v3, .val (frD f), s5, .val (dayT n ms), s7, .none] = K [v0, v1, v2, v3, .val (frD f), s5, .val (dayT n ms), s7, .none] := by
  obtain ⟨_, p1⟩ := (lets_x (c := c) (f := f) (sm2_of hm he hn) hm he hn hz hk).elim
  obtain ⟨_, p2⟩ := (is_let_x (c := c) (f := f) hm he hn hz hk).elim
  obtain ⟨_, p3, q3⟩ := (day_init (c := c) h1 hm he (.inl rfl)).elim
  obtain ⟨_, p4⟩ := (frame_of_r (c := c) ok).elim
  have hd : dayT n ms = .tup [.int n, .lst (ms.map mtD)] := rfl
  rw [← hd] at p2
  generalize letsB f n ms = B at *
  obtain ⟨z, hzr⟩ := repr_b (b := B)
  generalize frD f = FD at *
  simp only [fvD] at p1
  simp only [frO] at p4
  simp only [dayT] at p2 ⊢
  simp only [dvD, dyO] at p1 p3 q3
  generalize ms.map mtD = MD at *
  simp at p1 p2 p3 p4
  simp [D_law_b3_p1, p1, p2, p3, q3, p4, hzr]
theorem ct5 (a b c d e : D) : cutD [a, b, c, d, e] (some (1 : Int)) none = [b, c, d, e] := rfl
theorem p2_v {c : Cl} {f : Fr} {n : Int} {ms : List Mt} (ok : FrIn f) (hfn : f.n = n) (h1 : 1 ≤ n) (hm : Meets 0 ms) (he : endOf 0 ms ≤ n) (hn : n ≤ 24) (hz : ms.length ≤ 100) (hk : f.ks.length ≤ 100) {v0 v1 v2 v3 s5 s7 : Slot} (f7 : s7.free = true) :
    ∃ t7 : Slot, t7.free = true ∧ D_law_b3_p2 c [v0, v1, v2, v3, .val (frD f), s5, .val (dayT n ms), s7, .none] = .nx [v0, v1, v2, v3, .val (frD f), s5, .val (dayT n ms), t7, .none] := by
  by_cases h24 : n < 24
  · have ok2 : FrIn (wideF f (n + 1)) := ⟨by show (1 : Int) ≤ n + 1; omega, ok.s, ok.m, fun x hx => by have := ok.k x hx; exact ⟨this.1, by show x.1 < n + 1; omega⟩, ok.z⟩
    obtain ⟨_, p1⟩ := (lets_x (c := c) (f := wideF f (n + 1)) (sm2_of hm he (by omega)) hm he (by omega) hz hk).elim
    obtain ⟨_, p3, q3⟩ := (day_init (c := c) h1 hm he (.inl rfl)).elim
    obtain ⟨_, p4⟩ := (frame_of_r (c := c) ok2).elim
    have hB : letsB (wideF f (n + 1)) n ms = false := by
      unfold letsB
      have : ¬ n = (wideF f (n + 1)).n := by show ¬ n = n + 1; omega
      rw [decide_eq_false this]
      simp
    rw [hB] at p1
    refine ⟨.val (frD (wideF f (n + 1))), rfl, ?_⟩
    have m1 : ¬ n + 1 > 24 := by omega
    have m2 : (if n + 1 < 24 then n + 1 else 24) = n + 1 := by split <;> omega
    obtain ⟨fn, fs, fm, fp, fk⟩ := f
    dsimp only at hfn
    subst hfn
    simp only [wideF, fvD] at p1
    simp only [wideF, frO, frD] at p4
    simp only [wideF, frD, dayT]
    simp only [dvD, dyO] at p1 p3 q3
    generalize ms.map mtD = MD at *
    generalize moD fm = MO at *
    generalize fk.map knD = FK at *
    simp at p1 p3 p4
    simp [D_law_b3_p2, f7, p1, p3, q3, p4, h24, m2, ct5]
  · have e24 : n = 24 := by omega
    subst e24
    refine ⟨.val (frD (wideF f 24)), rfl, ?_⟩
    obtain ⟨fn, fs, fm, fp, fk⟩ := f
    dsimp only at hfn
    subst hfn
    simp only [wideF, frD, dayT]
    generalize ms.map mtD = MD at *
    generalize moD fm = MO at *
    generalize fk.map knD = FK at *
    simp [D_law_b3_p2, f7, ct5]
theorem b3_v {c : Cl} {b : Int × Int} {v0 v1 v3 s4 s5 s6 s7 : Slot} (f4 : s4.free = true) (f6 : s6.free = true) (f7 : s7.free = true) : ∃ (b' : Int × Int) (t4 t6 t7 : Slot), D_law_b3 c [v0, v1, .own (box b), v3, s4, s5, s6, s7, .none] = .nx [v0, v1, .own (box b'), v3, t4, s5, t6, t7, .none] ∧ t4.free = true ∧ t6.free = true ∧ t7.free = true := by
  obtain ⟨b', f, n, ms, ok, hk, n0, n1, hm, he, hz, e0⟩ := p0_v (c := c) (K := D_law_b3_p1 c (D_law_b3_p2 c)) (b := b) (v0 := v0) (v1 := v1) (v3 := v3) (s5 := s5) (s7 := s7) f4 f6
  have ok' := cutF_in ok n0
  have hk' : (cutF f n).ks.length ≤ 100 := Nat.le_trans (List.length_filter_le _ _) (by omega)
  have e1 := p1_v (c := c) (K := D_law_b3_p2 c) ok' n0 hm he (by omega) (by omega) hk' (v0 := v0) (v1 := v1) (v2 := .own (box b')) (v3 := v3) (s5 := s5) (s7 := s7)
  obtain ⟨t7, g7, e2⟩ := p2_v (c := c) (n := n) ok' rfl n0 hm he n1 (by omega) hk' (v0 := v0) (v1 := v1) (v2 := .own (box b')) (v3 := v3) (s5 := s5) f7
  exact ⟨b', _, _, t7, by rw [D_law_b3_eq, e0, e1, e2], rfl, rfl, g7⟩
theorem b4_v {c : Cl} {ns : List Int} {k : Nat} {s2 s3 s4 s5 s6 s7 : Slot} (f2 : s2.free = true) (f3 : s3.free = true) (f4 : s4.free = true) (f5 : s5.free = true) (f6 : s6.free = true) (f7 : s7.free = true) : ∃ (t2 t3 t4 t5 t6 t7 : Slot), D_law_b4 c [.val (.scr (ns.map D.int)), .val (.int k), s2, s3, s4, s5, s6, s7, .none] = .nx [.val (.scr (ns.map D.int)), .val (.int k), t2, t3, t4, t5, t6, t7, .none] ∧ t2.free = true ∧ t3.free = true ∧ t4.free = true ∧ t5.free = true ∧ t6.free = true ∧ t7.free = true := by
  obtain ⟨b, g⟩ := seed_gives (c := c) ns k
  obtain ⟨_, p1⟩ := g.elim
  obtain ⟨ρ1, e1, b1, r3, r4, r5, r6, rfl, g3, g4, g5, g6⟩ := forR_inv (U := uName 3) (B := D_law_b2 c) (n := 2) (fun i ρ => ∃ (b : Int × Int) (s3 s4 s5 s6 : Slot), ρ = [.val (.scr (ns.map D.int)), .val (.int k), .own (box b), s3, s4, s5, s6, s7, .none] ∧ s3.free = true ∧ s4.free = true ∧ s5.free = true ∧ s6.free = true) (fun i hi ρ hw => by
    obtain ⟨b, s3, s4, s5, s6, rfl, f3, f4, f5, f6⟩ := hw
    obtain ⟨b', t4, t5, t6, e, g4, g5, g6⟩ := b2_v (c := c) (b := b) (v0 := .val (.scr (ns.map D.int))) (v1 := .val (.int k)) (v3 := .val (.int i)) (s7 := s7) (s8 := .none) f4 f5 f6
    exact ⟨_, .inl (by simp [f3, e] <;> rfl), b', .val (.int i), t4, t5, t6, rfl, rfl, g4, g5, g6⟩) (ρ := [.val (.scr (ns.map D.int)), .val (.int k), .own (box b), s3, s4, s5, s6, s7, .none]) ⟨b, s3, s4, s5, s6, rfl, f3, f4, f5, f6⟩
  obtain ⟨ρ2, e2, b2, t3, t4, t6, t7, rfl, h3, h4, h6, h7⟩ := forR_inv (U := uName 3) (B := D_law_b3 c) (n := 20) (fun i ρ => ∃ (b : Int × Int) (s3 s4 s6 s7 : Slot), ρ = [.val (.scr (ns.map D.int)), .val (.int k), .own (box b), s3, s4, r5, s6, s7, .none] ∧ s3.free = true ∧ s4.free = true ∧ s6.free = true ∧ s7.free = true) (fun i hi ρ hw => by
    obtain ⟨b, s3, s4, s6, s7, rfl, f3, f4, f6, f7⟩ := hw
    obtain ⟨b', t4, t6, t7, e, g4, g6, g7⟩ := b3_v (c := c) (b := b) (v0 := .val (.scr (ns.map D.int))) (v1 := .val (.int k)) (v3 := .val (.int i)) (s5 := r5) f4 f6 f7
    exact ⟨_, .inl (by simp [f3, e] <;> rfl), b', .val (.int i), t4, t6, t7, rfl, rfl, g4, g6, g7⟩) (ρ := [.val (.scr (ns.map D.int)), .val (.int k), .own (box b1), r3, r4, r5, r6, s7, .none]) ⟨b1, r3, r4, r6, s7, rfl, g3, g4, g6, f7⟩
  refine ⟨.own (box b2), t3, t4, r5, t6, t7, ?_, rfl, h3, h4, g5, h6, h7⟩
  simp at p1
  simp [D_law_b4, f2, p1, e1, e2]
theorem loop_v {c : Cl} {ns : List Int} {N : Nat} : ∃ ρ, forL (uName 1) (D_law_b4 c) ((List.range N).map fun i => D.int (i : Nat)) [.val (.scr (ns.map D.int)), .none, .none, .none, .none, .none, .none, .none, .none] = .nx ρ := by
  obtain ⟨ρ', e, _⟩ := forR_inv (U := uName 1) (B := D_law_b4 c) (n := N) (fun i ρ => ∃ s1 s2 s3 s4 s5 s6 s7 : Slot, ρ = [.val (.scr (ns.map D.int)), s1, s2, s3, s4, s5, s6, s7, .none] ∧ s1.free = true ∧ s2.free = true ∧ s3.free = true ∧ s4.free = true ∧ s5.free = true ∧ s6.free = true ∧ s7.free = true) (fun i hi ρ hw => by
    obtain ⟨s1, s2, s3, s4, s5, s6, s7, rfl, f1, f2, f3, f4, f5, f6, f7⟩ := hw
    obtain ⟨t2, t3, t4, t5, t6, t7, e, g2, g3, g4, g5, g6, g7⟩ := b4_v (c := c) (ns := ns) (k := i) f2 f3 f4 f5 f6 f7
    exact ⟨_, .inl (by simp [f1, e] <;> rfl), .val (.int i), t2, t3, t4, t5, t6, t7, rfl, rfl, g2, g3, g4, g5, g6, g7⟩) (ρ := [.val (.scr (ns.map D.int)), .none, .none, .none, .none, .none, .none, .none, .none]) ⟨_, _, _, _, _, _, _, rfl, rfl, rfl, rfl, rfl, rfl, rfl, rfl⟩
  exact ⟨ρ', e⟩
theorem rng1_int {A : En → Res X} {ρ ρ1 : En} {x : Int} (h : A ρ = .ok (.val (.int x)) ρ1) (h0 : 0 ≤ x) (h1 : x ≤ 1000) : dRng1 A ρ = .ok ((List.range x.toNat).map fun i => D.int (i : Nat)) ρ1 := by
  have r1 : -4611686018427387904 ≤ x := by omega
  have r2 : x < 4611686018427387904 := by omega
  simp [h, r1, r2]
def lawN : En → Res (List D) := (dRng1 (dCB fMax (aCons (dC (.int 1)) (aCons (dCB fMin (aCons (dC (.int 3)) (aCons (dCB fLen (aCons (dVar 0) aNil)) aNil))) aNil))))
theorem lawN_v {ns : List Int} : ∃ N : Nat, lawN [.val (.scr (ns.map D.int)), .none, .none, .none, .none, .none, .none, .none, .none] = .ok ((List.range N).map fun i => D.int (i : Nat)) [.val (.scr (ns.map D.int)), .none, .none, .none, .none, .none, .none, .none, .none] := by
  obtain ⟨x, hx, h0, h1⟩ : ∃ x : Int, (if (if (ns.length : Int) < 3 then (ns.length : Int) else 3) > 1 then (if (ns.length : Int) < 3 then (ns.length : Int) else 3) else 1) = x ∧ 0 ≤ x ∧ x ≤ 3 := by
    refine ⟨_, rfl, ?_, ?_⟩ <;> (repeat' split) <;> omega
  refine ⟨x.toNat, rng1_int ?_ h0 (by omega)⟩
  simp at hx
  simp [hx]
noncomputable def lawA (c : Cl) : En → Res X := (dBin opIsB (dMeth c.Frame "lets" 2 8 (D_Frame_lets c) (dMake c.Frame 3 7 (fun ρ => D_Frame___init__ c (fillD 3 [.non, (.bl false), (.tup [])] ρ)) (aCons (dC (.int 3)) (aCons (dC (.int 2)) aNil))) (aCons (dMake c.Day 3 3 (fun ρ => D_Day___init__ c (fillD 3 [] ρ)) (aCons (dC (.int 3)) (aCons (dLst (aCons (dTup (aCons (dC (.int 0)) (aCons (dC (.int 1)) (aCons (dC (.bl false)) aNil)))) aNil)) aNil))) aNil)) (dC (.bl false)))
noncomputable def lawB (c : Cl) : En → Res X := (dBin opIsB (dMeth c.Frame "lets" 2 8 (D_Frame_lets c) (dMake c.Frame 4 7 (fun ρ => D_Frame___init__ c (fillD 4 [(.bl false), (.tup [])] ρ)) (aCons (dC (.int 3)) (aCons (dC (.int 1)) (aCons (dC (.int 0)) aNil)))) (aCons (dMake c.Day 2 3 (fun ρ => D_Day___init__ c (fillD 2 [(.tup [])] ρ)) (aCons (dC (.int 3)) aNil)) aNil)) (dC (.bl true)))
noncomputable def lawE (c : Cl) : En → SR := sRet (dAnd (lawA c) (lawB c))
theorem lawA_v {c : Cl} {ρ : En} : lawA c ρ = .ok (.val (.bl true)) ρ := by
  have ok : FrIn ⟨3, 2, none, false, []⟩ := ⟨by decide, by decide, fun i h => (by cases h), fun x h => (by simp at h), (by simp)⟩
  have hm : Meets 0 [(0, 1, false)] := ⟨by decide, by decide, trivial⟩
  obtain ⟨_, p1, q1⟩ := (frame_init (c := c) ok (.inr rfl)).elim
  obtain ⟨_, p2, q2⟩ := (day_init (c := c) (n := 3) (by decide) hm (by decide) (.inl rfl)).elim
  obtain ⟨_, p3⟩ := (lets_x (c := c) (f := ⟨3, 2, none, false, []⟩) (n := 3) (sm2_of (n := 3) hm (by decide) (by decide)) hm (by decide) (by decide) (by simp) (by simp)).elim
  have hB : letsB ⟨3, 2, none, false, []⟩ 3 [(0, 1, false)] = false := by decide
  rw [hB] at p3
  simp only [frO] at q1
  simp only [dyO] at q2
  simp [fvD, dvD, mtD, moD] at p3
  simp [fillD, moD] at p1 q1
  simp [fillD, mtD] at p2 q2
  simp [lawA, fillD, p1, q1, p2, q2, p3]
theorem lawB_v {c : Cl} {ρ : En} : lawB c ρ = .ok (.val (.bl true)) ρ := by
  have ok : FrIn ⟨3, 1, some 0, false, []⟩ := ⟨by decide, by decide, fun i h => (by cases h; decide), fun x h => (by simp at h), (by simp)⟩
  obtain ⟨_, p1, q1⟩ := (frame_init (c := c) ok (.inr rfl)).elim
  obtain ⟨_, p2, q2⟩ := (day_init1 (c := c) (n := 3) (by decide)).elim
  obtain ⟨_, p3⟩ := (lets_x (c := c) (f := ⟨3, 1, some 0, false, []⟩) (n := 3) (ms := []) (fun m h => by simp at h) trivial (by decide) (by decide) (by simp) (by simp)).elim
  have hB : letsB ⟨3, 1, some 0, false, []⟩ 3 [] = true := by decide
  rw [hB] at p3
  simp only [frO] at q1
  simp only [dyO] at q2
  simp [fvD, dvD, mtD, moD] at p3
  simp [fillD, moD] at p1 q1
  simp [fillD, mtD] at p2 q2
  simp [lawB, fillD, p1, q1, p2, q2, p3]
theorem law_eq3 {c : Cl} : D_law c = (sSeq (sFor lawN (uName 1) (D_law_b4 c)) (lawE c)) := rfl
theorem law_ok (c : Cl) : LawOk 9 (D_law c) := by
  intro ns hn
  obtain ⟨N, hN⟩ := lawN_v (ns := ns)
  obtain ⟨ρ, e⟩ := loop_v (c := c) (ns := ns) (N := N)
  have l : lawE c ρ = .rt (.val (.bl true)) ρ := by
    unfold lawE
    simp [lawA_v, lawB_v]
  have g : Gives 9 (D_law c) [.scr (ns.map D.int)] (.val (.bl true)) := by
    rw [law_eq3]
    show resV (fin (match (lawN [.val (.scr (ns.map D.int)), .none, .none, .none, .none, .none, .none, .none, .none]).sb fun ds ρ1 => forL (uName 1) (D_law_b4 c) ds ρ1 with
      | .nx ρ1 => lawE c ρ1
      | r => r)) = _
    rw [hN]
    show resV (fin (match forL (uName 1) (D_law_b4 c) ((List.range N).map fun i => D.int (i : Nat)) [.val (.scr (ns.map D.int)), .none, .none, .none, .none, .none, .none, .none, .none] with
      | .nx ρ1 => lawE c ρ1
      | r => r)) = _
    rw [e]
    show resV (fin (lawE c ρ)) = _
    rw [l]
    rfl
  exact g.elim
end DL
set_option Elab.async false
set_option linter.all false
set_option maxRecDepth 100000
set_option maxHeartbeats 4000000
namespace DD
open PySem PySem.Spec PyProof.Rows L2 StX ClX DL
theorem kit_str {K : PySem.W.Frag} {C : Addr} (h1 : PySem.W.isClsIn K C = true) (h2 : PySem.W.typeIn K (.ref C) = some (.type "type")) (h3 : PySem.W.subIn K (.type "str") (.ref C) = some false) : PySem.W.kitOne K (.type "str") (.ref C) = some false := by
  have h4 : (PySem.W.clsIn K C).isSome = true := h1
  simp [PySem.W.kitOne, PySem.W.kitCls, h4, h2, h3]
section
variable {P : Program} {w : World} {K : PySem.W.Frag} {mg : Str → Option Value} {base : Heap} {d : Ad}
theorem ok_law {f : Addr} {fd : FuncData} (T : Txt K mg d) (F : Fun K "law" "law" s_law f fd) : FnG P w K mg base 9 f fd ["_law_script"] (spLaw K) := by
  refine fun_okG F sc_law (fun vs H Q E h => ?_) (fun cdv A outer s H vs Q E hr hg h => ?_)
  · obtain ⟨_, _, rfl, _⟩ := h
    rfl
  · have hu := hr.units
    have hu5 := room5 hr
    exact ⟨_, (pss_cons (ps_for PassesOwn.never rfl (pi_range1 rfl T.b_range (pa_cons (pe_callB (call_max2 rfl) (by rfl) T.b_max (by decide +kernel) (pa_cons pe_int (pa_cons (pe_callB (call_min2 rfl) (by rfl) T.b_min (by decide +kernel) (pa_cons pe_int (pa_cons (pe_callB (call_len2 (K := K)) (by rfl) T.b_len PySem.boot_len (pa_cons (pv 0) pa_nil)) pa_nil))) pa_nil))) pa_nil)) (pg_name (i := 1) sc_law.nd rfl (by first | exact Or.inl rfl | exact Or.inr rfl)) (pss_cons (ps_set (i := 2) sc_law.nd rfl (by first | exact Or.inl rfl | exact Or.inr rfl) (pe_callR (sp := spD0 K 2 3 (D__law_seed (cl d))) (ok__law_seed T) (hr.mono (by decide)) rfl T.m__law_seed T.k__law_seed pass0 (pa_cons (pv 0) (pa_cons (pv 1) pa_nil)))) (pss_cons (ps_for PassesOwn.never rfl (pi_range1 rfl T.b_range (pa_cons pe_int pa_nil)) (pg_name (i := 3) sc_law.nd rfl (by first | exact Or.inl rfl | exact Or.inr rfl)) (pss_cons (ps_set (i := 4) sc_law.nd rfl (by first | exact Or.inl rfl | exact Or.inr rfl) (pe_callR (sp := spD0 K 3 7 (D__law_frame (cl d))) (ok__law_frame T) (hr.mono (by decide)) rfl T.m__law_frame T.k__law_frame pass0 (pa_cons (pv 2) (pa_cons pe_int (pa_cons pe_bl pa_nil))))) (pss_cons (ps_set (i := 5) sc_law.nd rfl (by first | exact Or.inl rfl | exact Or.inr rfl) (pe_callR (sp := spD0 K 1 1 (D__law_frame_of (cl d))) (ok__law_made_frame T) (hr.mono (by decide)) rfl T.m__law_made_frame T.k__law_made_frame pass0 (pa_cons (pv 4) pa_nil))) (pss_one (ps_for PassesOwn.never rfl (pi_seq (K := K) (pe_callR (sp := spD0 K 2 8 (D__law_all_days (cl d))) (ok__law_all_days T) (hr.mono (by decide)) rfl T.m__law_all_days T.k__law_all_days pass0 (pa_cons (pe_ix (ix_3 (K := K)) (pv 4) pe_int (fun _ _ => rfl)) (pa_cons pe_bl pa_nil)))) (pg_name (i := 6) sc_law.nd rfl (by first | exact Or.inl rfl | exact Or.inr rfl)) (pss_cons (ps_if (PW.pt (pw_and (pt_cmpR op_notBl (DD.pe_methR (sp := spD0 K 2 8 (D_Frame_lets (cl d))) (pv 5) T.cl_Frame T.me_Frame_lets (ok_Frame_lets T) (hr.mono (by decide)) pass0 (pa_cons (pe_makeR (sp := spD0 K 3 3 (fun ρ => D_Day___init__ (cl d) (fillD 3 [] ρ))) T.mk_Day (ok_Day_init2 T) (hr.mono (by decide)) rfl T.m_Day pass0 (pa_cons (pe_ix (ix_3 (K := K)) (pv 6) pe_int (fun _ _ => rfl)) (pa_cons (pe_ix (ix_3 (K := K)) (pv 6) pe_int (fun _ _ => rfl)) pa_nil))) pa_nil)) pe_bl (nomark _)) (pw_and1 (pt_val (pe_callR (sp := spD0 K 2 8 (D__law_is_let (cl d))) (ok__law_is_let T) (hr.mono (by decide)) rfl T.m__law_is_let T.k__law_is_let pass0 (pa_cons (pv 4) (pa_cons (pv 6) pa_nil))))))) (pss_one (ps_ret pe_bl)) pss_nil) (pss_one (ps_if (PW.pt (pw_and (pt_cmpR op_notBl (DD.pe_methR (sp := spD0 K 2 8 (D_Frame_lets (cl d))) (pv 5) T.cl_Frame T.me_Frame_lets (ok_Frame_lets T) (hr.mono (by decide)) pass0 (pa_cons (pe_makeR (sp := spD0 K 3 3 (fun ρ => D_Day___init__ (cl d) (fillD 3 [] ρ))) T.mk_Day (ok_Day_init2 T) (hr.mono (by decide)) rfl T.m_Day pass0 (pa_cons (pe_ix (ix_3 (K := K)) (pv 6) pe_int (fun _ _ => rfl)) (pa_cons (pe_ix (ix_3 (K := K)) (pv 6) pe_int (fun _ _ => rfl)) pa_nil))) pa_nil)) pe_bl (nomark _)) (pw_and1 (pt_not (pt_val (pe_callR (sp := spD0 K 2 8 (D__law_is_let (cl d))) (ok__law_is_let T) (hr.mono (by decide)) rfl T.m__law_is_let T.k__law_is_let pass0 (pa_cons (pv 4) (pa_cons (pv 6) pa_nil)))))))) (pss_one (ps_ret pe_bl)) pss_nil)))))))) (pss_one (ps_for PassesOwn.never rfl (pi_range1 rfl T.b_range (pa_cons pe_int pa_nil)) (pg_name (i := 3) sc_law.nd rfl (by first | exact Or.inl rfl | exact Or.inr rfl)) (pss_cons (ps_asg (pe_tup (pa_cons (pe_callR (sp := spD0 K 3 7 (D__law_frame (cl d))) (ok__law_frame T) (hr.mono (by decide)) rfl T.m__law_frame T.k__law_frame pass0 (pa_cons (pv 2) (pa_cons pe_int (pa_cons pe_bl pa_nil)))) (pa_cons (pe_callR (sp := spD0 K 3 9 (D__law_day (cl d))) (ok__law_day T) (hr.mono (by decide)) rfl T.m__law_day T.k__law_day pass0 (pa_cons (pv 2) (pa_cons pe_int (pa_cons pe_bl pa_nil)))) pa_nil))) (pg_tupK (K := K) (n := 2) rfl (pgs_cons (pg_name (i := 4) sc_law.nd rfl (by first | exact Or.inl rfl | exact Or.inr rfl)) (pgs_cons (pg_name (i := 6) sc_law.nd rfl (by first | exact Or.inl rfl | exact Or.inr rfl)) pgs_nil)))) (pss_cons (ps_set (i := 4) sc_law.nd rfl (by first | exact Or.inl rfl | exact Or.inr rfl) (pe_tup (pa_cons (pe_ix (ix_3 (K := K)) (pv 6) pe_int (fun _ _ => rfl)) (pa_cons (pe_ix (ix_3 (K := K)) (pv 4) pe_int (fun _ _ => rfl)) (pa_cons (pe_ix (ix_3 (K := K)) (pv 4) pe_int (fun _ _ => rfl)) (pa_cons (pe_ix (ix_3 (K := K)) (pv 4) pe_int (fun _ _ => rfl)) (pa_cons (pe_lc (own := [("_law_pair", 8)]) rfl sc_law.nd (pi_seq (K := K) (pe_ix (ix_3 (K := K)) (pv 4) pe_int (fun _ _ => rfl))) (blkOk_by (N := ["_law_script", "_law_k", "_law_box", "_law_turn", "_law_told", "_law_frame_here", "_law_day_here", "_law_wide", "_law_pair"]) (sc := defScope s_law) (by decide +kernel)) (fun _ _ _ _ _ => (pg_name (i := 8) sc_law.nd rfl (by first | exact Or.inl rfl | exact Or.inr rfl))) (fun _ _ _ _ _ => (pts_one (pt_cmpR (op_lt2 (K := K) hu) (pe_ix (ix_3 (K := K)) (pv 8) pe_int (fun _ _ => rfl)) (pe_ix (ix_3 (K := K)) (pv 6) pe_int (fun _ _ => rfl)) (nomark _)))) (fun _ _ _ _ _ => (pv 8))) pa_nil))))))) (pss_cons (ps_if (pt_cmpR (op_ne2 (K := K) hu) (pe_callB (call_repr2 (K := K) hg hu) (by rfl) T.b_repr (by decide +kernel) (pa_cons (DD.pe_methR (sp := spD0 K 2 8 (D_Frame_lets (cl d))) (pe_callR (sp := spD0 K 1 1 (D__law_frame_of (cl d))) (ok__law_made_frame T) (hr.mono (by decide)) rfl T.m__law_made_frame T.k__law_made_frame pass0 (pa_cons (pv 4) pa_nil)) T.cl_Frame T.me_Frame_lets (ok_Frame_lets T) (hr.mono (by decide)) pass0 (pa_cons (pe_makeR (sp := spD0 K 3 3 (fun ρ => D_Day___init__ (cl d) (fillD 3 [] ρ))) T.mk_Day (ok_Day_init2 T) (hr.mono (by decide)) rfl T.m_Day pass0 (pa_cons (pe_ix (ix_3 (K := K)) (pv 6) pe_int (fun _ _ => rfl)) (pa_cons (pe_ix (ix_3 (K := K)) (pv 6) pe_int (fun _ _ => rfl)) pa_nil))) pa_nil)) pa_nil)) (pe_callB (call_repr2 (K := K) hg hu) (by rfl) T.b_repr (by decide +kernel) (pa_cons (pe_callR (sp := spD0 K 2 8 (D__law_is_let (cl d))) (ok__law_is_let T) (hr.mono (by decide)) rfl T.m__law_is_let T.k__law_is_let pass0 (pa_cons (pv 4) (pa_cons (pv 6) pa_nil))) pa_nil)) (nomark _)) (pss_one (ps_ret pe_bl)) pss_nil) (pss_cons (ps_set (i := 7) sc_law.nd rfl (by first | exact Or.inl rfl | exact Or.inr rfl) (pe_op (op_add4 (K := K)) (pe_tup (pa_cons (pe_callB (call_min2 rfl) (by rfl) T.b_min (by decide +kernel) (pa_cons pe_int (pa_cons (pe_callTy call_int2 rfl T.b_int (by decide +kernel) (pa_cons (pe_op (op_add4 (K := K)) (pe_ix (ix_3 (K := K)) (pv 6) pe_int (fun _ _ => rfl)) pe_int) pa_nil)) pa_nil))) pa_nil)) (pe_slice (sl_3 (K := K)) (pv 4) (po_some pe_int) po_none))) (pss_one (ps_if (PW.pt (pw_and (pt_cmpR (op_lt2 (K := K) hu) (pe_ix (ix_3 (K := K)) (pv 6) pe_int (fun _ _ => rfl)) pe_int (nomark _)) (pw_and1 (pt_val (DD.pe_methR (sp := spD0 K 2 8 (D_Frame_lets (cl d))) (pe_callR (sp := spD0 K 1 1 (D__law_frame_of (cl d))) (ok__law_made_frame T) (hr.mono (by decide)) rfl T.m__law_made_frame T.k__law_made_frame pass0 (pa_cons (pv 7) pa_nil)) T.cl_Frame T.me_Frame_lets (ok_Frame_lets T) (hr.mono (by decide)) pass0 (pa_cons (pe_makeR (sp := spD0 K 3 3 (fun ρ => D_Day___init__ (cl d) (fillD 3 [] ρ))) T.mk_Day (ok_Day_init2 T) (hr.mono (by decide)) rfl T.m_Day pass0 (pa_cons (pe_ix (ix_3 (K := K)) (pv 6) pe_int (fun _ _ => rfl)) (pa_cons (pe_ix (ix_3 (K := K)) (pv 6) pe_int (fun _ _ => rfl)) pa_nil))) pa_nil)))))) (pss_one (ps_ret pe_bl)) pss_nil))))))))))) (pss_one (ps_ret (pe_and (pe_cmpR op_isBl (DD.pe_methR (sp := spD0 K 2 8 (D_Frame_lets (cl d))) (pe_makeR (sp := spD0 K 3 7 (fun ρ => D_Frame___init__ (cl d) (fillD 3 [.non, (.bl false), (.tup [])] ρ))) T.mk_Frame (ok_Frame_init2 T) (hr.mono (by decide)) rfl T.m_Frame pass0 (pa_cons pe_int (pa_cons pe_int pa_nil))) T.cl_Frame T.me_Frame_lets (ok_Frame_lets T) (hr.mono (by decide)) pass0 (pa_cons (pe_makeR (sp := spD0 K 3 3 (fun ρ => D_Day___init__ (cl d) (fillD 3 [] ρ))) T.mk_Day (ok_Day_init2 T) (hr.mono (by decide)) rfl T.m_Day pass0 (pa_cons pe_int (pa_cons (pe_lst (pa_cons (pe_tup (pa_cons pe_int (pa_cons pe_int (pa_cons pe_bl pa_nil)))) pa_nil)) pa_nil))) pa_nil)) pe_bl (nomark _)) (pe_one (pe_cmpR op_isBl (DD.pe_methR (sp := spD0 K 2 8 (D_Frame_lets (cl d))) (pe_makeR (sp := spD0 K 4 7 (fun ρ => D_Frame___init__ (cl d) (fillD 4 [(.bl false), (.tup [])] ρ))) T.mk_Frame (ok_Frame_init3 T) (hr.mono (by decide)) rfl T.m_Frame pass0 (pa_cons pe_int (pa_cons pe_int (pa_cons pe_int pa_nil)))) T.cl_Frame T.me_Frame_lets (ok_Frame_lets T) (hr.mono (by decide)) pass0 (pa_cons (pe_makeR (sp := spD0 K 2 3 (fun ρ => D_Day___init__ (cl d) (fillD 2 [(.tup [])] ρ))) T.mk_Day (ok_Day_init1 T) (hr.mono (by decide)) rfl T.m_Day pass0 (pa_cons pe_int pa_nil)) pa_nil)) pe_bl (nomark _))))))), law_run (T := D_law (cl d)) (by decide) (L_seq (L_for (vs := [1]) (I_rng1 (L_cb C_max (A_cons L_int (A_cons (L_cb C_min (A_cons L_int (A_cons (L_cb C_len (A_cons (L_var (i := 0)) A_nil)) A_nil))) A_nil)))) (U_name (by decide)) (L_seq (L_set (Lz_call (A_cons (L_var (i := 0)) (A_cons (L_var (i := 1)) A_nil)))) (L_seq (L_for (vs := [3]) (I_rng1 L_int) (U_name (by decide)) (L_seq (L_set (Lz_lend (i := 2) (A_cons L_int (A_cons L_bl A_nil)))) (L_seq (L_set (Lz_call (A_cons (L_var (i := 4)) A_nil))) (L_forS (vs := [6]) (Lz_call (A_cons (L_bin S_ix (L_var (i := 4)) L_int) (A_cons L_bl A_nil))) (U_name (by decide)) (L_seq (L_if (L_tand (L_test (L_bin S_notB (Lz_meth (L_var (i := 5)) (A_cons (Lz_make (A_cons (L_bin S_ix (L_var (i := 6)) L_int) (A_cons (L_bin S_ix (L_var (i := 6)) L_int) A_nil))) A_nil)) L_bl)) (L_test (Lz_call (A_cons (L_var (i := 4)) (A_cons (L_var (i := 6)) A_nil))))) (L_ret L_bl) L_next) (L_if (L_tand (L_test (L_bin S_notB (Lz_meth (L_var (i := 5)) (A_cons (Lz_make (A_cons (L_bin S_ix (L_var (i := 6)) L_int) (A_cons (L_bin S_ix (L_var (i := 6)) L_int) A_nil))) A_nil)) L_bl)) (L_tnot (L_test (Lz_call (A_cons (L_var (i := 4)) (A_cons (L_var (i := 6)) A_nil)))))) (L_ret L_bl) L_next)))))) (L_for (vs := [3]) (I_rng1 L_int) (U_name (by decide)) (L_seq (L_tupN (is := [4, 6]) (N_cons (Lz_lend (i := 2) (A_cons L_int (A_cons L_bl A_nil))) (N_cons (Lz_lend (i := 2) (A_cons L_int (A_cons L_bl A_nil))) N_nil)) rfl (by decide)) (L_seq (L_set (L_tup (A_cons (L_bin S_ix (L_var (i := 6)) L_int) (A_cons (L_bin S_ix (L_var (i := 4)) L_int) (A_cons (L_bin S_ix (L_var (i := 4)) L_int) (A_cons (L_bin S_ix (L_var (i := 4)) L_int) (A_cons (L_lcS (Et := E0) (Ea := E0) (L_bin S_ix (L_var (i := 4)) L_int) (U_name (by decide)) (L_test (L_bin S_lt2 (L_bin S_ix (L_var (i := 8)) L_int) (L_bin S_ix (L_var (i := 6)) L_int))) (L_var (i := 8))) A_nil))))))) (L_seq (L_if (L_test (L_bin S_ne (L_cb C_repr (A_cons (Lz_meth (Lz_call (A_cons (L_var (i := 4)) A_nil)) (A_cons (Lz_make (A_cons (L_bin S_ix (L_var (i := 6)) L_int) (A_cons (L_bin S_ix (L_var (i := 6)) L_int) A_nil))) A_nil)) A_nil)) (L_cb C_repr (A_cons (Lz_call (A_cons (L_var (i := 4)) (A_cons (L_var (i := 6)) A_nil))) A_nil)))) (L_ret L_bl) L_next) (L_seq (L_set (L_bin S_add4 (L_tup (A_cons (L_cb C_min (A_cons L_int (A_cons (L_cb C_int (A_cons (L_bin S_add4 (L_bin S_ix (L_var (i := 6)) L_int) L_int) A_nil)) A_nil))) A_nil)) (L_sl (L_var (i := 4)) (O_some L_int) O_none))) (L_if (L_tand (L_test (L_bin S_lt2 (L_bin S_ix (L_var (i := 6)) L_int) L_int)) (L_test (Lz_meth (Lz_call (A_cons (L_var (i := 7)) A_nil)) (A_cons (Lz_make (A_cons (L_bin S_ix (L_var (i := 6)) L_int) (A_cons (L_bin S_ix (L_var (i := 6)) L_int) A_nil))) A_nil)))) (L_ret L_bl) L_next))))))))) (L_ret (L_and (L_bin S_isB (Lz_meth (Lz_make (A_cons L_int (A_cons L_int A_nil))) (A_cons (Lz_make (A_cons L_int (A_cons (L_lst (A_cons (L_tup (A_cons L_int (A_cons L_int (A_cons L_bl A_nil)))) A_nil)) A_nil))) A_nil)) L_bl) (L_bin S_isB (Lz_meth (Lz_make (A_cons L_int (A_cons L_int (A_cons L_int A_nil)))) (A_cons (Lz_make (A_cons L_int A_nil)) A_nil)) L_bl)))) (law_ok (cl d)) h⟩
end
theorem all_mk {l : PySem.W.OpenLaw} {w : World} {K : PySem.W.Frag} {h : Heap} {mg : Str → Option Value} {fa : Addr} (X : K.In h) (G : h.Ns mainGlobals mg) (hfa : mg "law" = some (.ref fa))
    {f_is_integer f_is_number f__is_meeting f_is_sequence f__are_meetings f_is_positive f__is_known f__are_known f__wrong_argument f__law_all_days f__law_choose f__law_one_of f__law_day f__law_frame f__law_is_let f__law_made_frame f__law_seed f_law f_Day___init__ f_Day_taken q_Day_taken f_Frame___init__ f_Frame_lets C_Day C_Frame : Addr}
     (a_Frame : PySem.W.nsIn K mainGlobals "Frame" = some (some (.ref C_Frame)))
     (a_Day : PySem.W.nsIn K mainGlobals "Day" = some (some (.ref C_Day)))
    {oc_is_integer kV_is_integer do_is_integer pm_is_integer cd_is_integer ct_is_integer : Value} {od_is_integer an_is_integer : Option Addr} {sl_is_integer : Array (Option Value)} (a_is_integer : PySem.W.nsIn K mainGlobals "is_integer" = some (some (.ref f_is_integer)))
     (l_is_integer : K.lookup f_is_integer = some ⟨oc_is_integer, od_is_integer, .func (PySem.W.fnOf "is_integer" "is_integer" (defArgs s_is_integer) (defBody s_is_integer) (defScope s_is_integer) .none kV_is_integer do_is_integer pm_is_integer an_is_integer cd_is_integer ct_is_integer), sl_is_integer⟩)
     (c_is_integer : PySem.W.codeIn K cd_is_integer "is_integer" = true)
     (k_is_integer : PySem.W.keepIn K (.ref f_is_integer) = true)
    {oc_is_number kV_is_number do_is_number pm_is_number cd_is_number ct_is_number : Value} {od_is_number an_is_number : Option Addr} {sl_is_number : Array (Option Value)} (a_is_number : PySem.W.nsIn K mainGlobals "is_number" = some (some (.ref f_is_number)))
     (l_is_number : K.lookup f_is_number = some ⟨oc_is_number, od_is_number, .func (PySem.W.fnOf "is_number" "is_number" (defArgs s_is_number) (defBody s_is_number) (defScope s_is_number) .none kV_is_number do_is_number pm_is_number an_is_number cd_is_number ct_is_number), sl_is_number⟩)
     (c_is_number : PySem.W.codeIn K cd_is_number "is_number" = true)
     (k_is_number : PySem.W.keepIn K (.ref f_is_number) = true)
    {oc__is_meeting kV__is_meeting do__is_meeting pm__is_meeting cd__is_meeting ct__is_meeting : Value} {od__is_meeting an__is_meeting : Option Addr} {sl__is_meeting : Array (Option Value)} (a__is_meeting : PySem.W.nsIn K mainGlobals "_is_meeting" = some (some (.ref f__is_meeting)))
     (l__is_meeting : K.lookup f__is_meeting = some ⟨oc__is_meeting, od__is_meeting, .func (PySem.W.fnOf "_is_meeting" "_is_meeting" (defArgs s__is_meeting) (defBody s__is_meeting) (defScope s__is_meeting) .none kV__is_meeting do__is_meeting pm__is_meeting an__is_meeting cd__is_meeting ct__is_meeting), sl__is_meeting⟩)
     (c__is_meeting : PySem.W.codeIn K cd__is_meeting "_is_meeting" = true)
     (k__is_meeting : PySem.W.keepIn K (.ref f__is_meeting) = true)
    {oc_is_sequence kV_is_sequence do_is_sequence pm_is_sequence cd_is_sequence ct_is_sequence : Value} {od_is_sequence an_is_sequence : Option Addr} {sl_is_sequence : Array (Option Value)} (a_is_sequence : PySem.W.nsIn K mainGlobals "is_sequence" = some (some (.ref f_is_sequence)))
     (l_is_sequence : K.lookup f_is_sequence = some ⟨oc_is_sequence, od_is_sequence, .func (PySem.W.fnOf "is_sequence" "is_sequence" (defArgs s_is_sequence) (defBody s_is_sequence) (defScope s_is_sequence) .none kV_is_sequence do_is_sequence pm_is_sequence an_is_sequence cd_is_sequence ct_is_sequence), sl_is_sequence⟩)
     (c_is_sequence : PySem.W.codeIn K cd_is_sequence "is_sequence" = true)
     (k_is_sequence : PySem.W.keepIn K (.ref f_is_sequence) = true)
    {oc__are_meetings kV__are_meetings do__are_meetings pm__are_meetings cd__are_meetings ct__are_meetings : Value} {od__are_meetings an__are_meetings : Option Addr} {sl__are_meetings : Array (Option Value)} (a__are_meetings : PySem.W.nsIn K mainGlobals "_are_meetings" = some (some (.ref f__are_meetings)))
     (l__are_meetings : K.lookup f__are_meetings = some ⟨oc__are_meetings, od__are_meetings, .func (PySem.W.fnOf "_are_meetings" "_are_meetings" (defArgs s__are_meetings) (defBody s__are_meetings) (defScope s__are_meetings) .none kV__are_meetings do__are_meetings pm__are_meetings an__are_meetings cd__are_meetings ct__are_meetings), sl__are_meetings⟩)
     (c__are_meetings : PySem.W.codeIn K cd__are_meetings "_are_meetings" = true)
     (k__are_meetings : PySem.W.keepIn K (.ref f__are_meetings) = true)
    {oc_is_positive kV_is_positive do_is_positive pm_is_positive cd_is_positive ct_is_positive : Value} {od_is_positive an_is_positive : Option Addr} {sl_is_positive : Array (Option Value)} (a_is_positive : PySem.W.nsIn K mainGlobals "is_positive" = some (some (.ref f_is_positive)))
     (l_is_positive : K.lookup f_is_positive = some ⟨oc_is_positive, od_is_positive, .func (PySem.W.fnOf "is_positive" "is_positive" (defArgs s_is_positive) (defBody s_is_positive) (defScope s_is_positive) .none kV_is_positive do_is_positive pm_is_positive an_is_positive cd_is_positive ct_is_positive), sl_is_positive⟩)
     (c_is_positive : PySem.W.codeIn K cd_is_positive "is_positive" = true)
     (k_is_positive : PySem.W.keepIn K (.ref f_is_positive) = true)
    {oc__is_known kV__is_known do__is_known pm__is_known cd__is_known ct__is_known : Value} {od__is_known an__is_known : Option Addr} {sl__is_known : Array (Option Value)} (a__is_known : PySem.W.nsIn K mainGlobals "_is_known" = some (some (.ref f__is_known)))
     (l__is_known : K.lookup f__is_known = some ⟨oc__is_known, od__is_known, .func (PySem.W.fnOf "_is_known" "_is_known" (defArgs s__is_known) (defBody s__is_known) (defScope s__is_known) .none kV__is_known do__is_known pm__is_known an__is_known cd__is_known ct__is_known), sl__is_known⟩)
     (c__is_known : PySem.W.codeIn K cd__is_known "_is_known" = true)
     (k__is_known : PySem.W.keepIn K (.ref f__is_known) = true)
    {oc__are_known kV__are_known do__are_known pm__are_known cd__are_known ct__are_known : Value} {od__are_known an__are_known : Option Addr} {sl__are_known : Array (Option Value)} (a__are_known : PySem.W.nsIn K mainGlobals "_are_known" = some (some (.ref f__are_known)))
     (l__are_known : K.lookup f__are_known = some ⟨oc__are_known, od__are_known, .func (PySem.W.fnOf "_are_known" "_are_known" (defArgs s__are_known) (defBody s__are_known) (defScope s__are_known) .none kV__are_known do__are_known pm__are_known an__are_known cd__are_known ct__are_known), sl__are_known⟩)
     (c__are_known : PySem.W.codeIn K cd__are_known "_are_known" = true)
     (k__are_known : PySem.W.keepIn K (.ref f__are_known) = true)
    {oc__wrong_argument kV__wrong_argument do__wrong_argument pm__wrong_argument cd__wrong_argument ct__wrong_argument : Value} {od__wrong_argument an__wrong_argument : Option Addr} {sl__wrong_argument : Array (Option Value)} (a__wrong_argument : PySem.W.nsIn K mainGlobals "_wrong_argument" = some (some (.ref f__wrong_argument)))
     (l__wrong_argument : K.lookup f__wrong_argument = some ⟨oc__wrong_argument, od__wrong_argument, .func (PySem.W.fnOf "_wrong_argument" "_wrong_argument" (defArgs s__wrong_argument) (defBody s__wrong_argument) (defScope s__wrong_argument) .none kV__wrong_argument do__wrong_argument pm__wrong_argument an__wrong_argument cd__wrong_argument ct__wrong_argument), sl__wrong_argument⟩)
     (c__wrong_argument : PySem.W.codeIn K cd__wrong_argument "_wrong_argument" = true)
     (k__wrong_argument : PySem.W.keepIn K (.ref f__wrong_argument) = true)
    {oc__law_all_days kV__law_all_days do__law_all_days pm__law_all_days cd__law_all_days ct__law_all_days : Value} {od__law_all_days an__law_all_days : Option Addr} {sl__law_all_days : Array (Option Value)} (a__law_all_days : PySem.W.nsIn K mainGlobals "_law_all_days" = some (some (.ref f__law_all_days)))
     (l__law_all_days : K.lookup f__law_all_days = some ⟨oc__law_all_days, od__law_all_days, .func (PySem.W.fnOf "_law_all_days" "_law_all_days" (defArgs s__law_all_days) (defBody s__law_all_days) (defScope s__law_all_days) .none kV__law_all_days do__law_all_days pm__law_all_days an__law_all_days cd__law_all_days ct__law_all_days), sl__law_all_days⟩)
     (c__law_all_days : PySem.W.codeIn K cd__law_all_days "_law_all_days" = true)
     (k__law_all_days : PySem.W.keepIn K (.ref f__law_all_days) = true)
    {oc__law_choose kV__law_choose do__law_choose pm__law_choose cd__law_choose ct__law_choose : Value} {od__law_choose an__law_choose : Option Addr} {sl__law_choose : Array (Option Value)} (a__law_choose : PySem.W.nsIn K mainGlobals "_law_choose" = some (some (.ref f__law_choose)))
     (l__law_choose : K.lookup f__law_choose = some ⟨oc__law_choose, od__law_choose, .func (PySem.W.fnOf "_law_choose" "_law_choose" (defArgs s__law_choose) (defBody s__law_choose) (defScope s__law_choose) .none kV__law_choose do__law_choose pm__law_choose an__law_choose cd__law_choose ct__law_choose), sl__law_choose⟩)
     (c__law_choose : PySem.W.codeIn K cd__law_choose "_law_choose" = true)
     (k__law_choose : PySem.W.keepIn K (.ref f__law_choose) = true)
    {oc__law_one_of kV__law_one_of do__law_one_of pm__law_one_of cd__law_one_of ct__law_one_of : Value} {od__law_one_of an__law_one_of : Option Addr} {sl__law_one_of : Array (Option Value)} (a__law_one_of : PySem.W.nsIn K mainGlobals "_law_one_of" = some (some (.ref f__law_one_of)))
     (l__law_one_of : K.lookup f__law_one_of = some ⟨oc__law_one_of, od__law_one_of, .func (PySem.W.fnOf "_law_one_of" "_law_one_of" (defArgs s__law_one_of) (defBody s__law_one_of) (defScope s__law_one_of) .none kV__law_one_of do__law_one_of pm__law_one_of an__law_one_of cd__law_one_of ct__law_one_of), sl__law_one_of⟩)
     (c__law_one_of : PySem.W.codeIn K cd__law_one_of "_law_one_of" = true)
     (k__law_one_of : PySem.W.keepIn K (.ref f__law_one_of) = true)
    {oc__law_day kV__law_day do__law_day pm__law_day cd__law_day ct__law_day : Value} {od__law_day an__law_day : Option Addr} {sl__law_day : Array (Option Value)} (a__law_day : PySem.W.nsIn K mainGlobals "_law_day" = some (some (.ref f__law_day)))
     (l__law_day : K.lookup f__law_day = some ⟨oc__law_day, od__law_day, .func (PySem.W.fnOf "_law_day" "_law_day" (defArgs s__law_day) (defBody s__law_day) (defScope s__law_day) .none kV__law_day do__law_day pm__law_day an__law_day cd__law_day ct__law_day), sl__law_day⟩)
     (c__law_day : PySem.W.codeIn K cd__law_day "_law_day" = true)
     (k__law_day : PySem.W.keepIn K (.ref f__law_day) = true)
    {oc__law_frame kV__law_frame do__law_frame pm__law_frame cd__law_frame ct__law_frame : Value} {od__law_frame an__law_frame : Option Addr} {sl__law_frame : Array (Option Value)} (a__law_frame : PySem.W.nsIn K mainGlobals "_law_frame" = some (some (.ref f__law_frame)))
     (l__law_frame : K.lookup f__law_frame = some ⟨oc__law_frame, od__law_frame, .func (PySem.W.fnOf "_law_frame" "_law_frame" (defArgs s__law_frame) (defBody s__law_frame) (defScope s__law_frame) .none kV__law_frame do__law_frame pm__law_frame an__law_frame cd__law_frame ct__law_frame), sl__law_frame⟩)
     (c__law_frame : PySem.W.codeIn K cd__law_frame "_law_frame" = true)
     (k__law_frame : PySem.W.keepIn K (.ref f__law_frame) = true)
    {oc__law_is_let kV__law_is_let do__law_is_let pm__law_is_let cd__law_is_let ct__law_is_let : Value} {od__law_is_let an__law_is_let : Option Addr} {sl__law_is_let : Array (Option Value)} (a__law_is_let : PySem.W.nsIn K mainGlobals "_law_is_let" = some (some (.ref f__law_is_let)))
     (l__law_is_let : K.lookup f__law_is_let = some ⟨oc__law_is_let, od__law_is_let, .func (PySem.W.fnOf "_law_is_let" "_law_is_let" (defArgs s__law_is_let) (defBody s__law_is_let) (defScope s__law_is_let) .none kV__law_is_let do__law_is_let pm__law_is_let an__law_is_let cd__law_is_let ct__law_is_let), sl__law_is_let⟩)
     (c__law_is_let : PySem.W.codeIn K cd__law_is_let "_law_is_let" = true)
     (k__law_is_let : PySem.W.keepIn K (.ref f__law_is_let) = true)
    {oc__law_made_frame kV__law_made_frame do__law_made_frame pm__law_made_frame cd__law_made_frame ct__law_made_frame : Value} {od__law_made_frame an__law_made_frame : Option Addr} {sl__law_made_frame : Array (Option Value)} (a__law_made_frame : PySem.W.nsIn K mainGlobals "_law_made_frame" = some (some (.ref f__law_made_frame)))
     (l__law_made_frame : K.lookup f__law_made_frame = some ⟨oc__law_made_frame, od__law_made_frame, .func (PySem.W.fnOf "_law_made_frame" "_law_made_frame" (defArgs s__law_made_frame) (defBody s__law_made_frame) (defScope s__law_made_frame) .none kV__law_made_frame do__law_made_frame pm__law_made_frame an__law_made_frame cd__law_made_frame ct__law_made_frame), sl__law_made_frame⟩)
     (c__law_made_frame : PySem.W.codeIn K cd__law_made_frame "_law_made_frame" = true)
     (k__law_made_frame : PySem.W.keepIn K (.ref f__law_made_frame) = true)
    {oc__law_seed kV__law_seed do__law_seed pm__law_seed cd__law_seed ct__law_seed : Value} {od__law_seed an__law_seed : Option Addr} {sl__law_seed : Array (Option Value)} (a__law_seed : PySem.W.nsIn K mainGlobals "_law_seed" = some (some (.ref f__law_seed)))
     (l__law_seed : K.lookup f__law_seed = some ⟨oc__law_seed, od__law_seed, .func (PySem.W.fnOf "_law_seed" "_law_seed" (defArgs s__law_seed) (defBody s__law_seed) (defScope s__law_seed) .none kV__law_seed do__law_seed pm__law_seed an__law_seed cd__law_seed ct__law_seed), sl__law_seed⟩)
     (c__law_seed : PySem.W.codeIn K cd__law_seed "_law_seed" = true)
     (k__law_seed : PySem.W.keepIn K (.ref f__law_seed) = true)
    {oc_law kV_law do_law pm_law cd_law ct_law : Value} {od_law an_law : Option Addr} {sl_law : Array (Option Value)} (a_law : PySem.W.nsIn K mainGlobals "law" = some (some (.ref f_law)))
     (l_law : K.lookup f_law = some ⟨oc_law, od_law, .func (PySem.W.fnOf "law" "law" (defArgs s_law) (defBody s_law) (defScope s_law) .none kV_law do_law pm_law an_law cd_law ct_law), sl_law⟩)
     (c_law : PySem.W.codeIn K cd_law "law" = true)
     (k_law : PySem.W.keepIn K (.ref f_law) = true)
    {oc_Day___init__ kV_Day___init__ do_Day___init__ pm_Day___init__ cd_Day___init__ ct_Day___init__ : Value} {od_Day___init__ an_Day___init__ : Option Addr} {sl_Day___init__ : Array (Option Value)} (a_Day___init__ : PySem.W.findIn K (.ref C_Day) "__init__" = some (some (.ref f_Day___init__)))
     (i_Day___init__ : PySem.W.isFn K (.ref f_Day___init__) = true)
    {T_Day___init__ : Addr} (l_Day___init__ : K.lookup f_Day___init__ = some ⟨oc_Day___init__, od_Day___init__, .func (PySem.W.fnOf "__init__" "Day.__init__" (defArgs s_Day___init__) (defBody s_Day___init__) (defScope s_Day___init__) (.ref T_Day___init__) kV_Day___init__ do_Day___init__ pm_Day___init__ an_Day___init__ cd_Day___init__ ct_Day___init__), sl_Day___init__⟩)
    {tc_Day___init__ : Value} {td_Day___init__ : Option Addr} {it_Day___init__ : Array Value} {tn_Day___init__ : Nat} {ts_Day___init__ : Array (Option Value)} (lt_Day___init__ : K.lookup T_Day___init__ = some ⟨tc_Day___init__, td_Day___init__, .seq it_Day___init__ tn_Day___init__, ts_Day___init__⟩)
    {z_Day : Addr} (lv_Day___init__ : it_Day___init__.toList.mapM absV = some [V.ref z_Day])
    {td_zDay : Option Addr} {it_zDay : Array Value} {tn_zDay : Nat} {ts_zDay : Array (Option Value)} (l_zDay : K.lookup z_Day = some ⟨.type "tuple", td_zDay, .seq it_zDay tn_zDay, ts_zDay⟩)
     (lv_zDay : it_zDay.toList.mapM absV = some [])
     (c_Day___init__ : PySem.W.codeIn K cd_Day___init__ "Day.__init__" = true)
     (k_Day___init__ : PySem.W.keepIn K (.ref f_Day___init__) = true)
    {oc_Day_taken kV_Day_taken do_Day_taken pm_Day_taken cd_Day_taken ct_Day_taken : Value} {od_Day_taken an_Day_taken : Option Addr} {sl_Day_taken : Array (Option Value)} (a_Day_taken : PySem.W.findIn K (.ref C_Day) "taken" = some (some (.ref q_Day_taken)))
     (pg_Day_taken : PySem.W.specialIn K (.ref q_Day_taken) "__get__" = some (some (.builtin "property.__get__")))
     (pt_Day_taken : PySem.W.takesIn K (.ref q_Day_taken) = some true)
    {rest_Day_taken : List Value} (pr_Day_taken : PySem.W.recIn K q_Day_taken "property" = some (.ref f_Day_taken :: rest_Day_taken))
     (l_Day_taken : K.lookup f_Day_taken = some ⟨oc_Day_taken, od_Day_taken, .func (PySem.W.fnOf "taken" "Day.taken" (defArgs s_Day_taken) (defBody s_Day_taken) (defScope s_Day_taken) .none kV_Day_taken do_Day_taken pm_Day_taken an_Day_taken cd_Day_taken ct_Day_taken), sl_Day_taken⟩)
     (c_Day_taken : PySem.W.codeIn K cd_Day_taken "Day.taken" = true)
     (k_Day_taken : PySem.W.keepIn K (.ref f_Day_taken) = true)
    {oc_Frame___init__ kV_Frame___init__ do_Frame___init__ pm_Frame___init__ cd_Frame___init__ ct_Frame___init__ : Value} {od_Frame___init__ an_Frame___init__ : Option Addr} {sl_Frame___init__ : Array (Option Value)} (a_Frame___init__ : PySem.W.findIn K (.ref C_Frame) "__init__" = some (some (.ref f_Frame___init__)))
     (i_Frame___init__ : PySem.W.isFn K (.ref f_Frame___init__) = true)
    {T_Frame___init__ : Addr} (l_Frame___init__ : K.lookup f_Frame___init__ = some ⟨oc_Frame___init__, od_Frame___init__, .func (PySem.W.fnOf "__init__" "Frame.__init__" (defArgs s_Frame___init__) (defBody s_Frame___init__) (defScope s_Frame___init__) (.ref T_Frame___init__) kV_Frame___init__ do_Frame___init__ pm_Frame___init__ an_Frame___init__ cd_Frame___init__ ct_Frame___init__), sl_Frame___init__⟩)
    {tc_Frame___init__ : Value} {td_Frame___init__ : Option Addr} {it_Frame___init__ : Array Value} {tn_Frame___init__ : Nat} {ts_Frame___init__ : Array (Option Value)} (lt_Frame___init__ : K.lookup T_Frame___init__ = some ⟨tc_Frame___init__, td_Frame___init__, .seq it_Frame___init__ tn_Frame___init__, ts_Frame___init__⟩)
    {z_Frame : Addr} (lv_Frame___init__ : it_Frame___init__.toList.mapM absV = some [V.int 1, V.non, V.bl false, V.ref z_Frame])
    {td_zFrame : Option Addr} {it_zFrame : Array Value} {tn_zFrame : Nat} {ts_zFrame : Array (Option Value)} (l_zFrame : K.lookup z_Frame = some ⟨.type "tuple", td_zFrame, .seq it_zFrame tn_zFrame, ts_zFrame⟩)
     (lv_zFrame : it_zFrame.toList.mapM absV = some [])
     (c_Frame___init__ : PySem.W.codeIn K cd_Frame___init__ "Frame.__init__" = true)
     (k_Frame___init__ : PySem.W.keepIn K (.ref f_Frame___init__) = true)
    {oc_Frame_lets kV_Frame_lets do_Frame_lets pm_Frame_lets cd_Frame_lets ct_Frame_lets : Value} {od_Frame_lets an_Frame_lets : Option Addr} {sl_Frame_lets : Array (Option Value)} (a_Frame_lets : PySem.W.findIn K (.ref C_Frame) "lets" = some (some (.ref f_Frame_lets)))
     (i_Frame_lets : PySem.W.isFn K (.ref f_Frame_lets) = true)
     (l_Frame_lets : K.lookup f_Frame_lets = some ⟨oc_Frame_lets, od_Frame_lets, .func (PySem.W.fnOf "lets" "Frame.lets" (defArgs s_Frame_lets) (defBody s_Frame_lets) (defScope s_Frame_lets) .none kV_Frame_lets do_Frame_lets pm_Frame_lets an_Frame_lets cd_Frame_lets ct_Frame_lets), sl_Frame_lets⟩)
     (c_Frame_lets : PySem.W.codeIn K cd_Frame_lets "Frame.lets" = true)
     (k_Frame_lets : PySem.W.keepIn K (.ref f_Frame_lets) = true)
     (pg_Day : PySem.W.plainGet K C_Day Str.empty = true)
     (hd_Day : PySem.W.hasDictIn K C_Day = true)
     (po_Day : PySem.W.plainOver K C_Day = true)
     (sa_Day : PySem.W.findIn K (.ref C_Day) "__setattr__" = some (some (.builtin "object.__setattr__")))
     (mk_Day : PySem.W.makesIn K C_Day = true)
     (kc_Day : PySem.W.keepIn K (.ref C_Day) = true)
     (na_Day_length : PySem.W.findIn K (.ref C_Day) "length" = some none)
     (na_Day_meetings : PySem.W.findIn K (.ref C_Day) "meetings" = some none)
     (na_Day_private : PySem.W.findIn K (.ref C_Day) "private" = some none)
     (isc_Day : PySem.W.isClsIn K C_Day = true)
     (tyc_Day : PySem.W.typeIn K (.ref C_Day) = some (.type "type"))
     (su_Day : PySem.W.subIn K (.type "str") (.ref C_Day) = some false)
     (sb_Day_int : PySem.W.subIn K (.ref C_Day) (.type "int") = some false)
     (sb_Day_bool : PySem.W.subIn K (.ref C_Day) (.type "bool") = some false)
     (sb_Day_str : PySem.W.subIn K (.ref C_Day) (.type "str") = some false)
     (sb_Day_tuple : PySem.W.subIn K (.ref C_Day) (.type "tuple") = some false)
     (sb_Day_list : PySem.W.subIn K (.ref C_Day) (.type "list") = some false)
     (o_Day : PySem.W.mroIn K C_Day (.type "object") = some true)
     (ic_Day : PySem.W.findIn K (.ref C_Day) "__class__" = some (some (.builtin "object.__class__")))
     (pg_Frame : PySem.W.plainGet K C_Frame Str.empty = true)
     (hd_Frame : PySem.W.hasDictIn K C_Frame = true)
     (po_Frame : PySem.W.plainOver K C_Frame = true)
     (sa_Frame : PySem.W.findIn K (.ref C_Frame) "__setattr__" = some (some (.builtin "object.__setattr__")))
     (mk_Frame : PySem.W.makesIn K C_Frame = true)
     (kc_Frame : PySem.W.keepIn K (.ref C_Frame) = true)
     (na_Frame_length : PySem.W.findIn K (.ref C_Frame) "length" = some none)
     (na_Frame_shortest : PySem.W.findIn K (.ref C_Frame) "shortest" = some none)
     (na_Frame_most : PySem.W.findIn K (.ref C_Frame) "most" = some none)
     (na_Frame_private : PySem.W.findIn K (.ref C_Frame) "private" = some none)
     (na_Frame_known : PySem.W.findIn K (.ref C_Frame) "known" = some none)
     (isc_Frame : PySem.W.isClsIn K C_Frame = true)
     (tyc_Frame : PySem.W.typeIn K (.ref C_Frame) = some (.type "type"))
     (su_Frame : PySem.W.subIn K (.type "str") (.ref C_Frame) = some false)
     (sb_Frame_int : PySem.W.subIn K (.ref C_Frame) (.type "int") = some false)
     (sb_Frame_bool : PySem.W.subIn K (.ref C_Frame) (.type "bool") = some false)
     (sb_Frame_str : PySem.W.subIn K (.ref C_Frame) (.type "str") = some false)
     (sb_Frame_tuple : PySem.W.subIn K (.ref C_Frame) (.type "tuple") = some false)
     (sb_Frame_list : PySem.W.subIn K (.ref C_Frame) (.type "list") = some false)
     (o_Frame : PySem.W.mroIn K C_Frame (.type "object") = some true)
     (ic_Frame : PySem.W.findIn K (.ref C_Frame) "__class__" = some (some (.builtin "object.__class__")))
     (oc1 : PySem.W.specialIn K (.builtin "object.__class__") "__get__" = some (some (.builtin "getset_descriptor.__get__")))
     (oc2 : PySem.W.takesIn K (.builtin "object.__class__") = some true)
     (b_abs : PySem.W.nsIn K mainGlobals "abs" = some none)
     (b_all : PySem.W.nsIn K mainGlobals "all" = some none)
     (b_bool : PySem.W.nsIn K mainGlobals "bool" = some none)
     (b_int : PySem.W.nsIn K mainGlobals "int" = some none)
     (b_isinstance : PySem.W.nsIn K mainGlobals "isinstance" = some none)
     (b_len : PySem.W.nsIn K mainGlobals "len" = some none)
     (b_list : PySem.W.nsIn K mainGlobals "list" = some none)
     (b_max : PySem.W.nsIn K mainGlobals "max" = some none)
     (b_min : PySem.W.nsIn K mainGlobals "min" = some none)
     (b_range : PySem.W.nsIn K mainGlobals "range" = some none)
     (b_repr : PySem.W.nsIn K mainGlobals "repr" = some none)
     (b_tuple : PySem.W.nsIn K mainGlobals "tuple" = some none)
    : ∃ fd : FuncData, (∀ (s : Shared) (v : Value), BindsTo s fd ⟨[v], []⟩ [("_law_script", v)]) ∧ ∀ base : Heap, K.In base → base.Ns mainGlobals mg → FnG l.prog w K mg base 9 fa fd ["_law_script"] (spLaw K) := by
  have e := hfa.symm.trans (PySem.W.mg_of X G a_law)
  cases e
  have T : Txt K mg { f_is_integer := f_is_integer, f_is_number := f_is_number, f__is_meeting := f__is_meeting, f_is_sequence := f_is_sequence, f__are_meetings := f__are_meetings, f_is_positive := f_is_positive, f__is_known := f__is_known, f__are_known := f__are_known, f__wrong_argument := f__wrong_argument, f__law_all_days := f__law_all_days, f__law_choose := f__law_choose, f__law_one_of := f__law_one_of, f__law_day := f__law_day, f__law_frame := f__law_frame, f__law_is_let := f__law_is_let, f__law_made_frame := f__law_made_frame, f__law_seed := f__law_seed, f_law := fa, f_Day___init__ := f_Day___init__, z_Day := z_Day, f_Day_taken := f_Day_taken, q_Day_taken := q_Day_taken, f_Frame___init__ := f_Frame___init__, z_Frame := z_Frame, f_Frame_lets := f_Frame_lets, C_Day := C_Day, C_Frame := C_Frame } := { m_is_integer := PySem.W.mg_of X G a_is_integer, k_is_integer := k_is_integer, F_is_integer := ⟨_, fun_mk (st := s_is_integer) l_is_integer c_is_integer k_is_integer⟩, m_is_number := PySem.W.mg_of X G a_is_number, k_is_number := k_is_number, F_is_number := ⟨_, fun_mk (st := s_is_number) l_is_number c_is_number k_is_number⟩, m__is_meeting := PySem.W.mg_of X G a__is_meeting, k__is_meeting := k__is_meeting, F__is_meeting := ⟨_, fun_mk (st := s__is_meeting) l__is_meeting c__is_meeting k__is_meeting⟩, m_is_sequence := PySem.W.mg_of X G a_is_sequence, k_is_sequence := k_is_sequence, F_is_sequence := ⟨_, fun_mk (st := s_is_sequence) l_is_sequence c_is_sequence k_is_sequence⟩, m__are_meetings := PySem.W.mg_of X G a__are_meetings, k__are_meetings := k__are_meetings, F__are_meetings := ⟨_, fun_mk (st := s__are_meetings) l__are_meetings c__are_meetings k__are_meetings⟩, m_is_positive := PySem.W.mg_of X G a_is_positive, k_is_positive := k_is_positive, F_is_positive := ⟨_, fun_mk (st := s_is_positive) l_is_positive c_is_positive k_is_positive⟩, m__is_known := PySem.W.mg_of X G a__is_known, k__is_known := k__is_known, F__is_known := ⟨_, fun_mk (st := s__is_known) l__is_known c__is_known k__is_known⟩, m__are_known := PySem.W.mg_of X G a__are_known, k__are_known := k__are_known, F__are_known := ⟨_, fun_mk (st := s__are_known) l__are_known c__are_known k__are_known⟩, m__wrong_argument := PySem.W.mg_of X G a__wrong_argument, k__wrong_argument := k__wrong_argument, F__wrong_argument := ⟨_, fun_mk (st := s__wrong_argument) l__wrong_argument c__wrong_argument k__wrong_argument⟩, m__law_all_days := PySem.W.mg_of X G a__law_all_days, k__law_all_days := k__law_all_days, F__law_all_days := ⟨_, fun_mk (st := s__law_all_days) l__law_all_days c__law_all_days k__law_all_days⟩, m__law_choose := PySem.W.mg_of X G a__law_choose, k__law_choose := k__law_choose, F__law_choose := ⟨_, fun_mk (st := s__law_choose) l__law_choose c__law_choose k__law_choose⟩, m__law_one_of := PySem.W.mg_of X G a__law_one_of, k__law_one_of := k__law_one_of, F__law_one_of := ⟨_, fun_mk (st := s__law_one_of) l__law_one_of c__law_one_of k__law_one_of⟩, m__law_day := PySem.W.mg_of X G a__law_day, k__law_day := k__law_day, F__law_day := ⟨_, fun_mk (st := s__law_day) l__law_day c__law_day k__law_day⟩, m__law_frame := PySem.W.mg_of X G a__law_frame, k__law_frame := k__law_frame, F__law_frame := ⟨_, fun_mk (st := s__law_frame) l__law_frame c__law_frame k__law_frame⟩, m__law_is_let := PySem.W.mg_of X G a__law_is_let, k__law_is_let := k__law_is_let, F__law_is_let := ⟨_, fun_mk (st := s__law_is_let) l__law_is_let c__law_is_let k__law_is_let⟩, m__law_made_frame := PySem.W.mg_of X G a__law_made_frame, k__law_made_frame := k__law_made_frame, F__law_made_frame := ⟨_, fun_mk (st := s__law_made_frame) l__law_made_frame c__law_made_frame k__law_made_frame⟩, m__law_seed := PySem.W.mg_of X G a__law_seed, k__law_seed := k__law_seed, F__law_seed := ⟨_, fun_mk (st := s__law_seed) l__law_seed c__law_seed k__law_seed⟩, m_law := PySem.W.mg_of X G a_law, k_law := k_law, F_law := ⟨_, fun_mk (st := s_law) l_law c_law k_law⟩, w_zDay := fun _ => sqt_mk l_zDay lv_zDay (by decide), F_Day___init__ := ⟨_, fund_mk l_Day___init__ lt_Day___init__ lv_Day___init__ (List.cons_ne_nil _ _) c_Day___init__ k_Day___init__⟩, F_Day_taken := ⟨_, fun_mk (st := s_Day_taken) l_Day_taken c_Day_taken k_Day_taken⟩, p_Day_taken := ⟨a_Day_taken, pg_Day_taken, pt_Day_taken, ⟨_, pr_Day_taken⟩⟩, w_zFrame := fun _ => sqt_mk l_zFrame lv_zFrame (by decide), F_Frame___init__ := ⟨_, fund_mk l_Frame___init__ lt_Frame___init__ lv_Frame___init__ (List.cons_ne_nil _ _) c_Frame___init__ k_Frame___init__⟩, F_Frame_lets := ⟨_, fun_mk (st := s_Frame_lets) l_Frame_lets c_Frame_lets k_Frame_lets⟩, me_Frame_lets := ⟨a_Frame_lets, i_Frame_lets, k_Frame_lets⟩, m_Day := PySem.W.mg_of X G a_Day, cl_Day := ⟨pg_Day, hd_Day, po_Day, sa_Day⟩, mk_Day := ⟨mk_Day, a_Day___init__, i_Day___init__, kc_Day⟩, na_Day_length := na_Day_length, na_Day_meetings := na_Day_meetings, na_Day_private := na_Day_private, ks_Day := kit_str isc_Day tyc_Day su_Day, su_Day := su_Day, sb_Day_int := sb_Day_int, sb_Day_bool := sb_Day_bool, sb_Day_str := sb_Day_str, sb_Day_tuple := sb_Day_tuple, sb_Day_list := sb_Day_list, o_Day := o_Day, ic_Day := ic_Day, m_Frame := PySem.W.mg_of X G a_Frame, cl_Frame := ⟨pg_Frame, hd_Frame, po_Frame, sa_Frame⟩, mk_Frame := ⟨mk_Frame, a_Frame___init__, i_Frame___init__, kc_Frame⟩, na_Frame_length := na_Frame_length, na_Frame_shortest := na_Frame_shortest, na_Frame_most := na_Frame_most, na_Frame_private := na_Frame_private, na_Frame_known := na_Frame_known, ks_Frame := kit_str isc_Frame tyc_Frame su_Frame, su_Frame := su_Frame, sb_Frame_int := sb_Frame_int, sb_Frame_bool := sb_Frame_bool, sb_Frame_str := sb_Frame_str, sb_Frame_tuple := sb_Frame_tuple, sb_Frame_list := sb_Frame_list, o_Frame := o_Frame, ic_Frame := ic_Frame, oc1 := oc1, oc2 := oc2, b_abs := PySem.W.mg_none_of X G b_abs, b_all := PySem.W.mg_none_of X G b_all, b_bool := PySem.W.mg_none_of X G b_bool, b_int := PySem.W.mg_none_of X G b_int, b_isinstance := PySem.W.mg_none_of X G b_isinstance, b_len := PySem.W.mg_none_of X G b_len, b_list := PySem.W.mg_none_of X G b_list, b_max := PySem.W.mg_none_of X G b_max, b_min := PySem.W.mg_none_of X G b_min, b_range := PySem.W.mg_none_of X G b_range, b_repr := PySem.W.mg_none_of X G b_repr, b_tuple := PySem.W.mg_none_of X G b_tuple }
  exact ⟨PySem.W.fnOf "law" "law" (defArgs s_law) (defBody s_law) (defScope s_law) .none kV_law do_law pm_law an_law cd_law ct_law, fun s v => .of_eq rfl, fun base _ _ => ok_law T (fun_mk l_law c_law k_law)⟩
theorem walk {l : PySem.W.OpenLaw} {q : Program} {loose : List Str} {XP : (Str → Option Value) → Heap → Prop} {YP : World → Heap → Prop} {d : DefRec} {K : Params → PySem.W.Frag} (hn : l.most = some 63) (hdf : d.params.defaults = [])
    (hY : ∀ (w : World) (h : Heap), YP w h → (K w.params).In h)
    (F : ∀ (w : World) (mg : Str → Option Value) (fa : Addr) (h : Heap), (K w.params).In h → h.Ns mainGlobals mg → mg d.name = some (.ref fa) →
      ∃ fd : FuncData, (∀ (s : Shared) (u : Value), BindsTo s fd ⟨[u], []⟩ [("_law_script", u)]) ∧ ∀ base : Heap, (K w.params).In base → base.Ns mainGlobals mg → FnG l.prog w (K w.params) mg base 9 fa fd ["_law_script"] (spLaw (K w.params))) :
    PySem.W.WalkO q loose XP YP l.row.toRowW d [] (fun f vs => PySem.call f vs) :=
  walk_ofG (n := 63) (k := 9) (x := "_law_script") (sp := spLaw) hn (by decide) hdf ⟨rfl, by decide, by decide⟩ hY F (fun _ _ a ns hl _ hS => ⟨a, ns, rfl, hS, hl, fun _ => rfl⟩)
end DD
open PySem PySem.W PyProof.Rows
set_option maxRecDepth 100000 in
set_option maxHeartbeats 0 in
theorem PySem.Challenge.cw_dimdays_k20_days_that_frames_let_holds : PySem.Challenge.rw_dimdays_k20_days_that_frames_let.Holds := by
  w_on; o_law; k_head; (case hw => w_witness2)
  k_fill
  refine DD.walk (l := PySem.Challenge.rw_dimdays_k20_days_that_frames_let) rfl rfl (fun w h Y => PySem.W.kIn_of Y) ?F
  case F =>
    intro w mg fa h KX G hmg
    refine' DD.all_mk KX G hmg ?a_Frame ?a_Day ?a_is_integer ?l_is_integer ?c_is_integer ?k_is_integer ?a_is_number ?l_is_number ?c_is_number ?k_is_number ?a__is_meeting ?l__is_meeting ?c__is_meeting ?k__is_meeting ?a_is_sequence ?l_is_sequence ?c_is_sequence ?k_is_sequence ?a__are_meetings ?l__are_meetings ?c__are_meetings ?k__are_meetings ?a_is_positive ?l_is_positive ?c_is_positive ?k_is_positive ?a__is_known ?l__is_known ?c__is_known ?k__is_known ?a__are_known ?l__are_known ?c__are_known ?k__are_known ?a__wrong_argument ?l__wrong_argument ?c__wrong_argument ?k__wrong_argument ?a__law_all_days ?l__law_all_days ?c__law_all_days ?k__law_all_days ?a__law_choose ?l__law_choose ?c__law_choose ?k__law_choose ?a__law_one_of ?l__law_one_of ?c__law_one_of ?k__law_one_of ?a__law_day ?l__law_day ?c__law_day ?k__law_day ?a__law_frame ?l__law_frame ?c__law_frame ?k__law_frame ?a__law_is_let ?l__law_is_let ?c__law_is_let ?k__law_is_let ?a__law_made_frame ?l__law_made_frame ?c__law_made_frame ?k__law_made_frame ?a__law_seed ?l__law_seed ?c__law_seed ?k__law_seed ?a_law ?l_law ?c_law ?k_law ?a_Day___init__ ?i_Day___init__ ?l_Day___init__ ?lt_Day___init__ ?lv_Day___init__ ?l_zDay ?lv_zDay ?c_Day___init__ ?k_Day___init__ ?a_Day_taken ?pg_Day_taken ?pt_Day_taken ?pr_Day_taken ?l_Day_taken ?c_Day_taken ?k_Day_taken ?a_Frame___init__ ?i_Frame___init__ ?l_Frame___init__ ?lt_Frame___init__ ?lv_Frame___init__ ?l_zFrame ?lv_zFrame ?c_Frame___init__ ?k_Frame___init__ ?a_Frame_lets ?i_Frame_lets ?l_Frame_lets ?c_Frame_lets ?k_Frame_lets ?pg_Day ?hd_Day ?po_Day ?sa_Day ?mk_Day ?kc_Day ?na_Day_length ?na_Day_meetings ?na_Day_private ?isc_Day ?tyc_Day ?su_Day ?sb_Day_int ?sb_Day_bool ?sb_Day_str ?sb_Day_tuple ?sb_Day_list ?o_Day ?ic_Day ?pg_Frame ?hd_Frame ?po_Frame ?sa_Frame ?mk_Frame ?kc_Frame ?na_Frame_length ?na_Frame_shortest ?na_Frame_most ?na_Frame_private ?na_Frame_known ?isc_Frame ?tyc_Frame ?su_Frame ?sb_Frame_int ?sb_Frame_bool ?sb_Frame_str ?sb_Frame_tuple ?sb_Frame_list ?o_Frame ?ic_Frame ?oc1 ?oc2 ?b_abs ?b_all ?b_bool ?b_int ?b_isinstance ?b_len ?b_list ?b_max ?b_min ?b_range ?b_repr ?b_tuple
    (case a_Frame => k_is)
    (case a_Day => k_is)
    (case a_is_integer => k_is)
    (case l_is_integer => k_is)
    (case c_is_integer => k_is)
    (case k_is_integer => k_is)
    (case a_is_number => k_is)
    (case l_is_number => k_is)
    (case c_is_number => k_is)
    (case k_is_number => k_is)
    (case a__is_meeting => k_is)
    (case l__is_meeting => k_is)
    (case c__is_meeting => k_is)
    (case k__is_meeting => k_is)
    (case a_is_sequence => k_is)
    (case l_is_sequence => k_is)
    (case c_is_sequence => k_is)
    (case k_is_sequence => k_is)
    (case a__are_meetings => k_is)
    (case l__are_meetings => k_is)
    (case c__are_meetings => k_is)
    (case k__are_meetings => k_is)
    (case a_is_positive => k_is)
    (case l_is_positive => k_is)
    (case c_is_positive => k_is)
    (case k_is_positive => k_is)
    (case a__is_known => k_is)
    (case l__is_known => k_is)
    (case c__is_known => k_is)
    (case k__is_known => k_is)
    (case a__are_known => k_is)
    (case l__are_known => k_is)
    (case c__are_known => k_is)
    (case k__are_known => k_is)
    (case a__wrong_argument => k_is)
    (case l__wrong_argument => k_is)
    (case c__wrong_argument => k_is)
    (case k__wrong_argument => k_is)
    (case a__law_all_days => k_is)
    (case l__law_all_days => k_is)
    (case c__law_all_days => k_is)
    (case k__law_all_days => k_is)
    (case a__law_choose => k_is)
    (case l__law_choose => k_is)
    (case c__law_choose => k_is)
    (case k__law_choose => k_is)
    (case a__law_one_of => k_is)
    (case l__law_one_of => k_is)
    (case c__law_one_of => k_is)
    (case k__law_one_of => k_is)
    (case a__law_day => k_is)
    (case l__law_day => k_is)
    (case c__law_day => k_is)
    (case k__law_day => k_is)
    (case a__law_frame => k_is)
    (case l__law_frame => k_is)
    (case c__law_frame => k_is)
    (case k__law_frame => k_is)
    (case a__law_is_let => k_is)
    (case l__law_is_let => k_is)
    (case c__law_is_let => k_is)
    (case k__law_is_let => k_is)
    (case a__law_made_frame => k_is)
    (case l__law_made_frame => k_is)
    (case c__law_made_frame => k_is)
    (case k__law_made_frame => k_is)
    (case a__law_seed => k_is)
    (case l__law_seed => k_is)
    (case c__law_seed => k_is)
    (case k__law_seed => k_is)
    (case a_law => k_is)
    (case l_law => k_is)
    (case c_law => k_is)
    (case k_law => k_is)
    (case a_Day___init__ => k_is)
    (case i_Day___init__ => k_is)
    (case l_Day___init__ => k_is)
    (case lt_Day___init__ => k_is)
    (case lv_Day___init__ => exact rfl)
    (case l_zDay => k_is)
    (case lv_zDay => exact rfl)
    (case c_Day___init__ => k_is)
    (case k_Day___init__ => k_is)
    (case a_Day_taken => k_is)
    (case pg_Day_taken => k_is)
    (case pt_Day_taken => k_is)
    (case pr_Day_taken => k_is)
    (case l_Day_taken => k_is)
    (case c_Day_taken => k_is)
    (case k_Day_taken => k_is)
    (case a_Frame___init__ => k_is)
    (case i_Frame___init__ => k_is)
    (case l_Frame___init__ => k_is)
    (case lt_Frame___init__ => k_is)
    (case lv_Frame___init__ => exact rfl)
    (case l_zFrame => k_is)
    (case lv_zFrame => exact rfl)
    (case c_Frame___init__ => k_is)
    (case k_Frame___init__ => k_is)
    (case a_Frame_lets => k_is)
    (case i_Frame_lets => k_is)
    (case l_Frame_lets => k_is)
    (case c_Frame_lets => k_is)
    (case k_Frame_lets => k_is)
    (case pg_Day => k_is)
    (case hd_Day => k_is)
    (case po_Day => k_is)
    (case sa_Day => k_is)
    (case mk_Day => k_is)
    (case kc_Day => k_is)
    (case na_Day_length => k_is)
    (case na_Day_meetings => k_is)
    (case na_Day_private => k_is)
    (case isc_Day => k_is)
    (case tyc_Day => k_is)
    (case su_Day => k_is)
    (case sb_Day_int => k_is)
    (case sb_Day_bool => k_is)
    (case sb_Day_str => k_is)
    (case sb_Day_tuple => k_is)
    (case sb_Day_list => k_is)
    (case o_Day => k_is)
    (case ic_Day => k_is)
    (case pg_Frame => k_is)
    (case hd_Frame => k_is)
    (case po_Frame => k_is)
    (case sa_Frame => k_is)
    (case mk_Frame => k_is)
    (case kc_Frame => k_is)
    (case na_Frame_length => k_is)
    (case na_Frame_shortest => k_is)
    (case na_Frame_most => k_is)
    (case na_Frame_private => k_is)
    (case na_Frame_known => k_is)
    (case isc_Frame => k_is)
    (case tyc_Frame => k_is)
    (case su_Frame => k_is)
    (case sb_Frame_int => k_is)
    (case sb_Frame_bool => k_is)
    (case sb_Frame_str => k_is)
    (case sb_Frame_tuple => k_is)
    (case sb_Frame_list => k_is)
    (case o_Frame => k_is)
    (case ic_Frame => k_is)
    (case oc1 => k_is)
    (case oc2 => k_is)
    (case b_abs => k_is)
    (case b_all => k_is)
    (case b_bool => k_is)
    (case b_int => k_is)
    (case b_isinstance => k_is)
    (case b_len => k_is)
    (case b_list => k_is)
    (case b_max => k_is)
    (case b_min => k_is)
    (case b_range => k_is)
    (case b_repr => k_is)
    (case b_tuple => k_is)
