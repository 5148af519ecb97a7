import PyProof.Rows.All
import Wide.All
import OpenK.AllK
import Wide.FinOn
import HandS.ForMost
import HandS.Defaults
import HandS.Property
import HandS.OwnEq
import HandS.FStr
import HandS.IsInst
import HandS.TupAny
import HandS.Evl
import HandS.Star
import HandS.SlotsOwn
import KE.KCallOwn
import HandS.Conv
import HandS.ClsMeth
import HandS.CallLocal
import HandS.Text
import HandS.StrMore
import HandS.Style
import PyProof.ReprRoads
import HandS.SortRule
import HandS.Iter
import KE.LtData
import KE.DataFind
import HandS.Deep
import HandS.RaiseMore
import HandS.SortInts
import HandS.NoneIn
import HandS.RevRange
import KE.SortData
import HandS.Ends
import HandS.Zip
import HandS.Dict
import KE.KStar
import KE.KParD
import HandS.Words
import HandS.TryOnly
import HandS.ExcInit
import HandS.ExcOwn
import HandS.ExcIs
import HandS.ExcField
import HandS.WordsExc
import KE.KExcIs
import KE.GoesRaise
import KE.KxMul
import KE.GoesMore
import KE.GoesZip
import KE.KTurns
import HandS.FStrTup
import PySem.Challenge.RW_dimdays_k23_standings_tick_by_tick
set_option Elab.async false
set_option linter.all false
set_option maxRecDepth 100000
set_option maxHeartbeats 2000000
namespace DD
open PySem PySem.Spec PyProof.Rows L2
section
variable {X : Cx} {CX : CXT} {k : Nat} {f C p g : Addr} {sp : Sp} {E : XK} {x m : Str} {pp pos apos : Pos} {e o : Expr} {es : List Expr} {ta : TE} {t : TA}
def tCallR (sp : Sp) (E : XK) (t : TA) : TE := fun σ H Q => t σ H fun vs H1 => sp vs H1 Q E
theorem wp_fnR {pins : List (Addr × Obj)} {σ : L2.St} {H : Hp} {s : Shared} {Q : VK} {us : List Value} {vs : List V} (F : FnR X.prog X.w X.K X.mg X.base CX k f sp) (hr : Room k X.A) (hx : Passes CX X E) (I : Inv X pins σ H s) (r : Vals vs us) (h : sp vs H Q E) :
    wpAny (model X.prog X.w) X.A (call (.ref f) us) (EP X pins σ Q) X.xe s := wpAny_call (run_fnR F hr hx I r h)
theorem pe_callR (F : FnR X.prog X.w X.K X.mg X.base CX k f sp) (hr : Room k X.A) (hg : Gl X x) (hm : X.mg x = some (.ref f)) (hk : PySem.W.keepIn X.K (.ref f) = true) (hx : Passes CX X E)
    (ha : PA X (e :: es) t) (hdb : (x == ("__debug__" : Str)) = false := by decide) (he : starEach (e :: es) X.env = (false, eval e X.env) :: starEach es X.env := by rfl) (hpl : (backTo pos (starEach es X.env)).any (·.1) = false := by rfl) :
    PE X (.Call (.Name x pp) (e :: es) [] pos) (tCallR sp E t) := by
  refine ⟨fun pins s σ H Q I h => ?_⟩
  refine wpAny_Call_Name_kw (ld_glob I hg hm ?_ hdb)
  refine PySem.W.callWith_K (h₀ := X.base) I.ok.mod.kin hk (thn (ha.run pos pins s σ H _ I h) fun us s1 ⟨vs, H1, I1, r, q⟩ => ⟨I1.kIn, ?_⟩) he hpl
  exact wp_fnR F hr hx I1 r q
/-- o.m(..) of an instance of the class at C -/
def tMethR (C : Addr) (m : Str) (sp : Sp) (E : XK) (ta : TE) (t : TA) : TE := fun σ H Q => ta σ H fun x H1 => ∃ a dx fs, x = .ref a ∧ H1 a = some (.ins C dx fs) ∧ fs.lookup m = none ∧
  t σ H1 fun vs H2 => sp (x :: vs) H2 Q E
theorem pe_methR {pl : Sem Bool} (he : PE X o ta) (c : Cls X.K C) (hm : Meth X.K C m f) (F : FnR X.prog X.w X.K X.mg X.base CX k f sp) (hr : Room k X.A) (hx : Passes CX X E) (ha : PA X (e :: es) t)
    (hst : starEach (e :: es) X.env = (false, eval e X.env) :: starEach es X.env := by rfl) (hpl : (backTo pos (starEach es X.env)).any (·.1) = false := by rfl)
    (ht : eval (.Call (.Attribute o m apos) (e :: es) [] pos) X.env = (do
      let ov ← eval o X.env
      standAt apos.atName
      let (f, first) ← holding [ov] (getMethod ov m pl)
      callWith pos f first (backTo pos (starEach (e :: es) X.env)) (backToKw pos (keywordEach [] X.env))) := by rfl) :
    PE X (.Call (.Attribute o m apos) (e :: es) [] pos) (tMethR C m sp E ta t) := by
  refine ⟨fun pins s σ H Q I h => ?_⟩
  refine PySem.W.methodCall_KW (pl := pl) (thn (he.run pins s σ H _ I h) fun u s1 ⟨x, H1, I1, rx, a, dx, fs, ex, ea, l, q⟩ => ?_) ht
  subst ex
  obtain rfl : u = Value.ref a := rx
  refine getmeth_ok I1 ea c hm l ?_
  refine PySem.W.callWith_K (first := [.ref a]) (h₀ := X.base) I.ok.mod.kin hm.kp (thn (ha.run pos pins s1 σ H1 _ I1 q) fun us s2 ⟨vs, H2, I2, r, q2⟩ => ⟨I2.kIn, ?_⟩) hst hpl
  exact wp_fnR (us := .ref a :: us) (vs := .ref a :: vs) F hr hx I2 (.cons rfl r) q2
/-- a statement that is never reached -/
theorem ps_dead {st : Stmt} : PS X st (fun _ _ _ => False) := ⟨fun _ _ _ _ _ _ h => h.elim⟩
end
end DD
set_option Elab.async false
set_option linter.all false
set_option maxRecDepth 100000
set_option maxHeartbeats 2000000
namespace DD
open PySem PySem.Spec PyProof.Rows L2
theorem inK {X : Cx} {K : PySem.W.Frag} (h : X.K = K := by rfl) : OpR X (compareOp .In) (rIn K false) := h ▸ op_in_seq
theorem sw2 {x y : Str} {a b : Expr} {px py pt pv : Pos} {kt kv} {env : Env} (hk : (env.blockKind != .function) = false) (lx : env.scope.names.lookup x = some .local) (ly : env.scope.names.lookup y = some .local)
    (hl : (py.line == px.line) = true := by rfl) (hxy : ((y == x) = false) := by decide +kernel) (h1 : ([a, b].any fun | .Starred .. => true | _ => false) = false := by rfl) (h2 : [a, b].all (foldedForSure 8) = false := by rfl) (h3 : [a, b].all (constantsAlone 8) = false := by rfl) :
    swappedStores [.Tuple [.Name x px, .Name y py] kt pt] (.Tuple [a, b] kv pv) env = pure (some [x, y]) := by
  have kx : (env.kindOf x == some .local) = true := by rw [show env.kindOf x = some .local from lx]; rfl
  have ky : (env.kindOf y == some .local) = true := by rw [show env.kindOf y = some .local from ly]; rfl
  unfold swappedStores
  simp only [pure_bind, List.head?_cons, Option.map_some, Option.getD_some, Expr.pos]
  have e : (px.line == px.line) = true := by simp
  simp only [List.filterMap_cons, List.filterMap_nil, Expr.pos, kx, ky, hl, e, Bool.and_self, if_true, h1, h2, h3, hk, List.length_cons, List.length_nil]
  have ed : ([x, y] : List Str).eraseDups = [x, y] := by
    simp [List.eraseDups_cons, hxy]
  rw [ed]
  refine (if_neg (by decide)).trans ((if_neg ?_).trans ((if_neg (by show ¬ ((2 != 2 || 2 != 2) = true); decide)).trans ((if_neg (by decide)).trans (if_neg (by decide)))))
  rw [Bool.not_eq_true]
  exact h1
end DD
set_option Elab.async false
set_option linter.all false
set_option maxRecDepth 100000
set_option maxHeartbeats 2000000
namespace DD
open PySem PySem.Spec PyProof.Rows L2
theorem Same.mut {H H' : Hp} {p : Addr} {o : HO} (e : Same H H') (h : H p = none) : Same H (upd H' p o) := fun a u ha => by
  rw [upd_ne (ne_of_none ha h)]
  exact e a u ha
theorem ixN_last {ws : List V} {x : V} : ixN (ws ++ [x]).length (-1) = some ws.length := by
  unfold ixN
  rw [if_neg (by decide), if_pos (by rw [List.length_append, List.length_singleton]; omega), List.length_append, List.length_singleton]
  congr 1
  omega
theorem set_last {ws : List V} {x y : V} : (ws ++ [x]).set ws.length y = ws ++ [y] := by
  rw [List.set_append_right _ _ (Nat.le_refl _)]
  simp
def IsRw {α : Type} (f : α → List V) (H : Hp) (v : V) (m : α) : Prop := ∃ a, v = .ref a ∧ H a = some (.tup (f m))
def IsRs {α : Type} (f : α → List V) (H : Hp) (vs : List V) (ms : List α) : Prop := vs.length = ms.length ∧ ∀ (i : Nat) v m, vs[i]? = some v → ms[i]? = some m → IsRw f H v m
section
variable {α : Type} {f : α → List V}
theorem IsRw.on {H H' : Hp} {v : V} {m : α} (e : ∀ a xs, H a = some (.tup xs) → H' a = some (.tup xs)) (x : IsRw f H v m) : IsRw f H' v m := by
  obtain ⟨a, e1, e2⟩ := x
  exact ⟨a, e1, e _ _ e2⟩
theorem IsRs.on {H H' : Hp} {vs : List V} {ms : List α} (e : ∀ a xs, H a = some (.tup xs) → H' a = some (.tup xs)) (x : IsRs f H vs ms) : IsRs f H' vs ms := ⟨x.1, fun i v m h1 h2 => (x.2 i v m h1 h2).on e⟩
theorem IsRs.mono {H H' : Hp} {vs : List V} {ms : List α} (e : Same H H') (x : IsRs f H vs ms) : IsRs f H' vs ms := x.on fun a xs h => e a _ h
theorem IsRs.nil {H : Hp} : IsRs f H [] [] := ⟨rfl, fun i v m h => by simp at h⟩
theorem IsRs.get {H : Hp} {vs : List V} {ms : List α} (x : IsRs f H vs ms) {i : Nat} {v : V} (h : vs[i]? = some v) : ∃ m, ms[i]? = some m ∧ IsRw f H v m := by
  have hi : i < ms.length := by rw [← x.1]; exact (List.getElem?_eq_some_iff.mp h).1
  exact ⟨ms[i], List.getElem?_eq_getElem hi, x.2 i v _ h (List.getElem?_eq_getElem hi)⟩
theorem IsRs.cons {H : Hp} {v : V} {m : α} {vs : List V} {ms : List α} (x : IsRw f H v m) (xs : IsRs f H vs ms) : IsRs f H (v :: vs) (m :: ms) := by
  refine ⟨by simp [xs.1], fun i v' m' h1 h2 => ?_⟩
  cases i with
  | zero =>
    simp at h1 h2
    subst h1 h2
    exact x
  | succ i =>
    simp at h1 h2
    exact xs.2 i v' m' h1 h2
theorem IsRs.one {H : Hp} {v : V} {m : α} (x : IsRw f H v m) : IsRs f H [v] [m] := .cons x .nil
theorem IsRs.take {H : Hp} {vs : List V} {ms : List α} (x : IsRs f H vs ms) (n : Nat) : IsRs f H (vs.take n) (ms.take n) := by
  refine ⟨by simp [x.1], fun i v m h1 h2 => ?_⟩
  rw [List.getElem?_take] at h1 h2
  split at h1
  · rename_i hi
    rw [if_pos hi] at h2
    exact x.2 i v m h1 h2
  · cases h1
/-- the last one: what is ahead of it, and it -/
theorem IsRs.last {H : Hp} {vs : List V} {ms : List α} {m : α} (x : IsRs f H vs (ms ++ [m])) : ∃ ws v, vs = ws ++ [v] ∧ IsRs f H ws ms ∧ IsRw f H v m := by
  have hl := x.1
  rw [List.length_append, List.length_singleton] at hl
  have hi : ms.length < vs.length := by omega
  refine ⟨vs.take ms.length, vs[ms.length], ?_, ?_, ?_⟩
  · rw [List.take_append_getElem hi, List.take_of_length_le (by omega)]
  · have y := x.take ms.length
    rw [List.take_left] at y
    exact y
  · exact x.2 ms.length _ _ (List.getElem?_eq_getElem hi) (by simp)
end
/-- rows of values, each as told -/
structure AllR {α : Type} (R : V → α → Prop) (vs : List V) (ms : List α) : Prop where
  len : vs.length = ms.length
  at_ : ∀ (i : Nat) v m, vs[i]? = some v → ms[i]? = some m → R v m
theorem AllR.nil {α : Type} {R : V → α → Prop} : AllR R [] [] := ⟨rfl, fun i v m h => by simp at h⟩
theorem AllR.imp {α : Type} {R S : V → α → Prop} {vs : List V} {ms : List α} (h : ∀ v m, R v m → S v m) (x : AllR R vs ms) : AllR S vs ms := ⟨x.len, fun i v m h1 h2 => h v m (x.at_ i v m h1 h2)⟩
theorem AllR.snoc {α : Type} {R : V → α → Prop} {vs : List V} {ms : List α} {v : V} {m : α} (x : AllR R vs ms) (y : R v m) : AllR R (vs ++ [v]) (ms ++ [m]) := by
  refine ⟨by simp [x.len], fun i v' m' h1 h2 => ?_⟩
  by_cases hi : i < vs.length
  · rw [List.getElem?_append_left hi] at h1
    rw [List.getElem?_append_left (by rw [← x.len]; exact hi)] at h2
    exact x.at_ i v' m' h1 h2
  · rw [List.getElem?_append_right (by omega)] at h1
    rw [List.getElem?_append_right (by rw [← x.len]; omega), ← x.len] at h2
    cases e : i - vs.length with
    | zero =>
      rw [e] at h1 h2
      simp at h1 h2
      subst h1 h2
      exact y
    | succ k =>
      rw [e] at h1
      simp at h1
theorem AllR.get {α : Type} {R : V → α → Prop} {vs : List V} {ms : List α} (x : AllR R vs ms) {i : Nat} {v : V} (h : vs[i]? = some v) : ∃ m, ms[i]? = some m ∧ R v m := by
  have hi : i < ms.length := by rw [← x.len]; exact (List.getElem?_eq_some_iff.mp h).1
  exact ⟨ms[i], List.getElem?_eq_getElem hi, x.at_ i v _ h (List.getElem?_eq_getElem hi)⟩
theorem none_of {H H' : Hp} {a : Addr} (e : Same H H') (h : H' a = none) : H a = none := by
  cases z : H a with
  | none => rfl
  | some o => rw [e a o z] at h; cases h
end DD
set_option Elab.async false
set_option linter.all false
set_option maxRecDepth 100000
set_option maxHeartbeats 2000000
namespace DL
open PySem PySem.Spec PyProof.Rows L2 DD
abbrev Fg := PySem.W.Frag
/-- data -/
inductive D where
  | non | bl (b : Bool) | int (i : Int) | str (x : Str)
  | tup (ds : List D) | lst (ds : List D) | scr (ds : List D) | ins (C : Addr) (ks : List Str) (ds : List D) | cls (C : Addr)
  deriving Inhabited
/-- what is owned: its content -/
inductive O where
  | lst (ds : List D) | ins (C : Addr) (ks : List Str) (ds : List D)
@[simp] def O.d : O → D
  | .lst ds => .lst ds
  | .ins C ks ds => .ins C ks ds
inductive Slot where
  | none | val (d : D) | own (o : O) | bor (o : O) | lck (o : O)
abbrev En := List Slot
mutual
/-- v stands for d, in the frozen part G -/
inductive Rep (K : Fg) (G : Hp) : V → D → Prop
  | non : Rep K G .non .non
  | bl (b : Bool) : Rep K G (.bl b) (.bl b)
  | int (i : Int) : Rep K G (.int i) (.int i)
  | str (x : Str) : Rep K G (.str x) (.str x)
  | tup {a : Addr} {vs : List V} {ds : List D} : SqT K G a vs → RepA K G vs ds → Rep K G (.ref a) (.tup ds)
  | lst {a : Addr} {vs : List V} {ds : List D} : G a = some (.lst vs) → RepA K G vs ds → Rep K G (.ref a) (.lst ds)
  | scr {a : Addr} {vs : List V} {ds : List D} : SqL K G a vs → RepA K G vs ds → Rep K G (.ref a) (.scr ds)
  | ins {a C dx : Addr} {fs : List (Str × V)} {ks : List Str} {ds : List D} : G a = some (.ins C dx fs) → fs.map (·.1) = ks → RepA K G (fs.map (·.2)) ds → Rep K G (.ref a) (.ins C ks ds)
  | cls (C : Addr) : Rep K G (.ref C) (.cls C)
inductive RepA (K : Fg) (G : Hp) : List V → List D → Prop
  | nil : RepA K G [] []
  | cons {v : V} {vs : List V} {d : D} {ds : List D} : Rep K G v d → RepA K G vs ds → RepA K G (v :: vs) (d :: ds)
end
theorem smNew {H : Hp} {p : Addr} {o : HO} (h : H p = none) : Same H (upd H p o) := fun a u e => by
  rw [upd_ne (ne_of_none e h)]
  exact e
theorem smTup {K : Fg} {H H' : Hp} {a : Addr} {xs : List V} (e : Same H H') (h : SqT K H a xs) : SqT K H' a xs := by
  rcases h with (h | ⟨o, h⟩) | h
  · exact .inl (.inl (e _ _ h))
  · exact .inl (.inr ⟨o, e _ _ h⟩)
  · exact .inr h
theorem smLst {K : Fg} {H H' : Hp} {a : Addr} {xs : List V} (e : Same H H') (h : SqL K H a xs) : SqL K H' a xs := by
  rcases h with (h | ⟨o, h⟩) | h
  · exact .inl (.inl (e _ _ h))
  · exact .inl (.inr ⟨o, e _ _ h⟩)
  · exact .inr h
section
variable {K : Fg} {G G' : Hp}
mutual
theorem Rep.mono (e : Same G G') : ∀ {v : V} {d : D}, Rep K G v d → Rep K G' v d
  | _, _, .non => .non
  | _, _, .bl b => .bl b
  | _, _, .int i => .int i
  | _, _, .str x => .str x
  | _, _, .tup h r => .tup (smTup e h) (RepA.mono e r)
  | _, _, .lst h r => .lst (e _ _ h) (RepA.mono e r)
  | _, _, .scr h r => .scr (smLst e h) (RepA.mono e r)
  | _, _, .ins h k r => .ins (e _ _ h) k (RepA.mono e r)
  | _, _, .cls C => .cls C
theorem RepA.mono (e : Same G G') : ∀ {vs : List V} {ds : List D}, RepA K G vs ds → RepA K G' vs ds
  | _, _, .nil => .nil
  | _, _, .cons h r => .cons (Rep.mono e h) (RepA.mono e r)
end
theorem RepA.len : ∀ {vs : List V} {ds : List D}, RepA K G vs ds → vs.length = ds.length
  | _, _, .nil => rfl
  | _, _, .cons _ r => by rw [List.length_cons, List.length_cons, r.len]
theorem RepA.get : ∀ {vs : List V} {ds : List D} {i : Nat} {d : D}, RepA K G vs ds → ds[i]? = some d → ∃ v, vs[i]? = some v ∧ Rep K G v d
  | _, _, _, _, .nil, h => by simp at h
  | _, _, 0, _, .cons h r, e => by simp at e; subst e; exact ⟨_, rfl, h⟩
  | _, _, i + 1, _, .cons h r, e => by
    obtain ⟨v, h1, h2⟩ := r.get (i := i) (by simpa using e)
    exact ⟨v, by simpa using h1, h2⟩
theorem RepA.get' : ∀ {vs : List V} {ds : List D} {i : Nat} {v : V}, RepA K G vs ds → vs[i]? = some v → ∃ d, ds[i]? = some d ∧ Rep K G v d
  | _, _, _, _, .nil, h => by simp at h
  | _, _, 0, _, .cons h r, e => by simp at e; subst e; exact ⟨_, rfl, h⟩
  | _, _, i + 1, _, .cons h r, e => by
    obtain ⟨d, h1, h2⟩ := r.get' (i := i) (by simpa using e)
    exact ⟨d, by simpa using h1, h2⟩
theorem RepA.app : ∀ {vs ws : List V} {ds es : List D}, RepA K G vs ds → RepA K G ws es → RepA K G (vs ++ ws) (ds ++ es)
  | _, _, _, _, .nil, r => r
  | _, _, _, _, .cons h r, s => .cons h (r.app s)
theorem RepA.take : ∀ {vs : List V} {ds : List D} (n : Nat), RepA K G vs ds → RepA K G (vs.take n) (ds.take n)
  | _, _, 0, _ => .nil
  | _, _, _ + 1, .nil => .nil
  | _, _, n + 1, .cons h r => .cons h (r.take n)
theorem RepA.drop : ∀ {vs : List V} {ds : List D} (n : Nat), RepA K G vs ds → RepA K G (vs.drop n) (ds.drop n)
  | _, _, 0, r => r
  | _, _, _ + 1, .nil => .nil
  | _, _, n + 1, .cons h r => r.drop n
theorem RepA.set : ∀ {vs : List V} {ds : List D} {v : V} {d : D} (i : Nat), RepA K G vs ds → Rep K G v d → RepA K G (vs.set i v) (ds.set i d)
  | _, _, _, _, _, .nil, _ => .nil
  | _, _, _, _, 0, .cons h r, s => .cons s r
  | _, _, _, _, i + 1, .cons h r, s => .cons h (r.set i s)
theorem RepA.one {v : V} {d : D} (h : Rep K G v d) : RepA K G [v] [d] := .cons h .nil
theorem RepA.ofInts : ∀ {ns : List Int}, RepA K G (ns.map V.int) (ns.map D.int)
  | [] => .nil
  | n :: ns => .cons (.int n) RepA.ofInts
end
structure Fm where
  H0 : Hp
  G0 : Hp
  M : Nat → Option Addr
  L : Nat → Option Addr
def ObjO (K : Fg) (G H : Hp) (a : Addr) : O → Prop
  | .lst ds => ∃ vs, H a = some (.lst vs) ∧ RepA K G vs ds
  | .ins C ks ds => ∃ dx fs, H a = some (.ins C dx fs) ∧ fs.map (·.1) = ks ∧ RepA K G (fs.map (·.2)) ds
theorem ObjO.mono {K : Fg} {G G' H H' : Hp} {a : Addr} {o : O} (e : Same G G') (k : ∀ u, H a = some u → H' a = some u) (h : ObjO K G H a o) : ObjO K G' H' a o := by
  cases o with
  | lst ds =>
    obtain ⟨vs, h1, h2⟩ := h
    exact ⟨vs, k _ h1, h2.mono e⟩
  | ins C ks ds =>
    obtain ⟨dx, fs, h1, h2, h3⟩ := h
    exact ⟨dx, fs, k _ h1, h2, h3.mono e⟩
theorem ObjO.ex {K : Fg} {G H : Hp} {a : Addr} {o : O} (h : ObjO K G H a o) : ∃ u, H a = some u := by
  cases o with
  | lst ds => exact ⟨_, h.choose_spec.1⟩
  | ins C ks ds =>
    obtain ⟨dx, fs, h1, _⟩ := h
    exact ⟨_, h1⟩
def SlotR (K : Fg) (F : Fm) (G H : Hp) (i : Nat) (x : Option V) : Slot → Prop
  | .none => True
  | .val d => ∃ v, x = some v ∧ Rep K G v d
  | .own o => ∃ a, x = some (.ref a) ∧ F.H0 a = none ∧ G a = none ∧ ObjO K G H a o
  | .bor o => ∃ a, x = some (.ref a) ∧ F.M i = some a ∧ G a = none ∧ ObjO K G H a o
  | .lck o => ∃ a u, x = some (.ref a) ∧ F.L i = some a ∧ G a = none ∧ F.H0 a = some u ∧ (∀ j, F.M j ≠ some a) ∧ ObjO K G H a o
structure Rl (K : Fg) (F : Fm) (G H : Hp) (σ : L2.St) (ρ : En) : Prop where
  gh : Same G H
  g0 : Same F.G0 G
  gn : ∀ a o, G a = some o → F.G0 a = none → F.H0 a = none
  hk : ∀ a o, F.H0 a = some o → (∀ i, F.M i ≠ some a) → H a = some o
  hm : ∀ i a, F.M i = some a → H a ≠ none ∧ F.H0 a ≠ none ∧ ∃ o, ρ[i]? = some (.bor o)
  hl : ∀ i a, F.L i = some a → ∃ o, ρ[i]? = some (.lck o)
  sl : ∀ i s, ρ[i]? = some s → ∃ x, σ[i]? = some x ∧ SlotR K F G H i x s
  di : ∀ (i j : Nat) (o o' : O) (a : Addr), ρ[i]? = some (.own o) → ρ[j]? = some (.own o') → σ[i]? = some (some (.ref a)) → σ[j]? = some (some (.ref a)) → i = j
  mi : ∀ i j a, F.M i = some a → F.M j = some a → i = j
section
variable {K : Fg} {F : Fm} {G G' H H' : Hp} {σ σ' : L2.St} {ρ ρ' : En} {a p : Addr}
theorem Rl.fresh (R : Rl K F G H σ ρ) (h : H p = none) : F.H0 p = none := by
  cases e : F.H0 p with
  | none => rfl
  | some o =>
    by_cases q : ∃ i, F.M i = some p
    · obtain ⟨i, q⟩ := q
      exact absurd h (R.hm i p q).1
    · have := R.hk p o e fun i z => q ⟨i, z⟩
      rw [h] at this
      cases this
theorem Rl.freshG (R : Rl K F G H σ ρ) (h : H p = none) : G p = none := none_of R.gh h
/-- the owner's address -/
theorem Rl.own {i : Nat} {o : O} (R : Rl K F G H σ ρ) (h : ρ[i]? = some (.own o)) : ∃ a, σ[i]? = some (some (.ref a)) ∧ F.H0 a = none ∧ G a = none ∧ ObjO K G H a o := by
  obtain ⟨x, h1, a, rfl, h2, h3, h4⟩ := R.sl i _ h
  exact ⟨a, h1, h2, h3, h4⟩
theorem Rl.bor {i : Nat} {o : O} (R : Rl K F G H σ ρ) (h : ρ[i]? = some (.bor o)) : ∃ a, σ[i]? = some (some (.ref a)) ∧ F.M i = some a ∧ G a = none ∧ ObjO K G H a o := by
  obtain ⟨x, h1, a, rfl, h2, h3, h4⟩ := R.sl i _ h
  exact ⟨a, h1, h2, h3, h4⟩
theorem Rl.val {i : Nat} {d : D} (R : Rl K F G H σ ρ) (h : ρ[i]? = some (.val d)) : ∃ v, σ[i]? = some (some v) ∧ Rep K G v d := by
  obtain ⟨x, h1, v, rfl, h2⟩ := R.sl i _ h
  exact ⟨v, h1, h2⟩
/-- a slot whose object stands as before -/
theorem SlotR.mono {i : Nat} {x : Option V} {s : Slot} (e : Same G G') (n : ∀ a, x = some (.ref a) → G a = none → (∃ u, H a = some u) → G' a = none) (k : ∀ a u, x = some (.ref a) → H a = some u → H' a = some u) (h : SlotR K F G H i x s) : SlotR K F G' H' i x s := by
  cases s with
  | none => trivial
  | val d =>
    obtain ⟨v, e1, e2⟩ := h
    exact ⟨v, e1, e2.mono e⟩
  | own o =>
    obtain ⟨a, e1, e2, e3, e4⟩ := h
    exact ⟨a, e1, e2, n a e1 e3 e4.ex, e4.mono e fun u => k a u e1⟩
  | bor o =>
    obtain ⟨a, e1, e2, e3, e4⟩ := h
    exact ⟨a, e1, e2, n a e1 e3 e4.ex, e4.mono e fun u => k a u e1⟩
  | lck o =>
    obtain ⟨a, u, e1, e2, e3, e5, e6, e4⟩ := h
    exact ⟨a, u, e1, e2, n a e1 e3 e4.ex, e5, e6, e4.mono e fun u => k a u e1⟩
theorem smNewG {o : HO} (h : G a = none) : Same G (upd G a o) := smNew h
/-- the heap grows, nothing that stood changes -/
theorem Rl.grow (R : Rl K F G H σ ρ) (k : Same H H') : Rl K F G H' σ ρ where
  gh := R.gh.trans k
  g0 := R.g0
  gn := R.gn
  hk := fun a o h n => k _ _ (R.hk a o h n)
  hm := fun i a h => by
    obtain ⟨h1, h2, h3⟩ := R.hm i a h
    refine ⟨fun z => ?_, h2, h3⟩
    cases e : H a with
    | none => exact h1 e
    | some u => rw [k a u e] at z; cases z
  hl := R.hl
  sl := fun i s h => by
    obtain ⟨x, h1, h2⟩ := R.sl i s h
    exact ⟨x, h1, h2.mono (Same.refl G) (fun _ _ g _ => g) fun a u _ e => k a u e⟩
  di := R.di
  mi := R.mi
theorem Rl.laid {o : HO} (R : Rl K F G H σ ρ) (h : H p = none) : Rl K F G (upd H p o) σ ρ := R.grow (smNew h)
/-- what no slot owns is frozen -/
theorem Rl.frz {o : HO} (R : Rl K F G H σ ρ) (h : H a = some o) (h0 : F.H0 a = none) (hg : G a = none) (n : ∀ (j : Nat) (u : O), ρ[j]? = some (.own u) → σ[j]? ≠ some (some (.ref a))) : Rl K F (upd G a o) H σ ρ where
  gh := fun b u e => by
    by_cases q : b = a
    · subst q
      rw [upd_same] at e
      cases e
      exact h
    · rw [upd_ne q] at e
      exact R.gh b u e
  g0 := R.g0.trans (smNew hg)
  gn := fun b u e g => by
    by_cases q : b = a
    · subst q; exact h0
    · rw [upd_ne q] at e
      exact R.gn b u e g
  hk := R.hk
  hm := R.hm
  hl := R.hl
  sl := fun i s hs => by
    obtain ⟨x, h1, h2⟩ := R.sl i s hs
    refine ⟨x, h1, ?_⟩
    have ne : ∀ b, b ≠ a → G b = none → upd G a o b = none := fun b q g => by rw [upd_ne q]; exact g
    have M := smNewG (o := o) hg
    cases s with
    | none => trivial
    | val d =>
      obtain ⟨v, e1, e2⟩ := h2
      exact ⟨v, e1, e2.mono M⟩
    | own u =>
      obtain ⟨b, rfl, e2, e3, e4⟩ := h2
      exact ⟨b, rfl, e2, ne b (fun q => n i u hs (by rw [h1, q])) e3, e4.mono M fun _ z => z⟩
    | bor u =>
      obtain ⟨b, rfl, e2, e3, e4⟩ := h2
      exact ⟨b, rfl, e2, ne b (fun q => (R.hm i b e2).2.1 (by rw [q]; exact h0)) e3, e4.mono M fun _ z => z⟩
    | lck u =>
      obtain ⟨b, u', rfl, e2, e3, e5, e6, e4⟩ := h2
      exact ⟨b, u', rfl, e2, ne b (fun q => by rw [q, h0] at e5; cases e5) e3, e5, e6, e4.mono M fun _ z => z⟩
  di := R.di
  mi := R.mi
/-- a new frozen object -/
theorem Rl.add {o : HO} (R : Rl K F G H σ ρ) (h : H p = none) : Rl K F (upd G p o) (upd H p o) σ ρ := by
  refine (R.laid (o := o) h).frz upd_same (R.fresh h) (R.freshG h) fun j u hj z => ?_
  obtain ⟨b, h1, _, _, h4⟩ := R.own hj
  rw [h1] at z
  cases z
  obtain ⟨u, e⟩ := h4.ex
  rw [h] at e
  cases e
theorem getset {α : Type} {l : List α} {i j : Nat} {x y : α} (h : (l.set i x)[j]? = some y) : (i = j ∧ x = y ∧ i < l.length) ∨ (i ≠ j ∧ l[j]? = some y) := by
  by_cases e : i = j
  · subst e
    by_cases q : i < l.length
    · rw [List.getElem?_set_self q] at h
      exact .inl ⟨rfl, Option.some.inj h, q⟩
    · rw [List.getElem?_eq_none (by simpa using q)] at h
      cases h
  · rw [List.getElem?_set_ne e] at h
    exact .inr ⟨e, h⟩
theorem Rl.lt {i : Nat} (R : Rl K F G H σ ρ) (h : i < ρ.length) : i < σ.length := by
  obtain ⟨x, h1, _⟩ := R.sl i _ (List.getElem?_eq_getElem h)
  exact (List.getElem?_eq_some_iff.mp h1).1
/-- may a name be stored to -/
def Slot.free : Slot → Bool
  | .bor _ | .lck _ => false
  | _ => true
@[simp] def freeAt (ρ : En) (i : Nat) : Bool := match ρ[i]? with
  | some s => s.free
  | none => false
theorem freeAt_lt {i : Nat} (h : freeAt ρ i = true) : i < ρ.length := by
  unfold freeAt at h
  cases e : ρ[i]? with
  | none => rw [e] at h; cases h
  | some s => exact (List.getElem?_eq_some_iff.mp e).1
/-- a slot is stored to -/
theorem Rl.put {i : Nat} {v : V} {s : Slot} (R : Rl K F G H σ ρ) (hf : freeAt ρ i = true) (hs : SlotR K F G H i (some v) s) (hn : s.free = true) (hd : ∀ (o : O), s = .own o → ∀ (j : Nat) (o' : O), j ≠ i → ρ[j]? = some (.own o') → σ[j]? ≠ some (some v)) : Rl K F G H (σ.set i (some v)) (ρ.set i s) where
  gh := R.gh
  g0 := R.g0
  gn := R.gn
  hk := R.hk
  hm := fun j a h => by
    obtain ⟨h1, h2, o, h3⟩ := R.hm j a h
    refine ⟨h1, h2, o, ?_⟩
    by_cases e : i = j
    · subst e
      unfold freeAt at hf
      rw [h3] at hf
      cases hf
    · rw [List.getElem?_set_ne e]; exact h3
  hl := fun j a h => by
    obtain ⟨o, h3⟩ := R.hl j a h
    refine ⟨o, ?_⟩
    by_cases e : i = j
    · subst e
      unfold freeAt at hf
      rw [h3] at hf
      cases hf
    · rw [List.getElem?_set_ne e]; exact h3
  sl := fun j t h => by
    rcases getset h with ⟨rfl, rfl, hl⟩ | ⟨ne, h⟩
    · exact ⟨some v, by rw [List.getElem?_set_self (R.lt hl)], hs⟩
    · obtain ⟨x, h1, h2⟩ := R.sl j t h
      exact ⟨x, by rw [List.getElem?_set_ne ne]; exact h1, h2⟩
  di := fun j k o o' a h1 h2 h3 h4 => by
    have hil : i < ρ.length := freeAt_lt hf
    rcases getset h1 with ⟨rfl, rfl, _⟩ | ⟨n1, h1⟩
    · rcases getset h2 with ⟨rfl, _, _⟩ | ⟨n2, h2⟩
      · rfl
      · rw [List.getElem?_set_self (R.lt hil)] at h3
        rw [List.getElem?_set_ne n2] at h4
        cases h3
        exact absurd h4 (hd o rfl k o' (Ne.symm n2) h2)
    · have h1x := h1
      rw [List.getElem?_set_ne n1] at h3
      rcases getset h2 with ⟨rfl, rfl, _⟩ | ⟨n2, h2⟩
      · rw [List.getElem?_set_self (R.lt hil)] at h4
        cases h4
        exact absurd h3 (hd o' rfl j o (Ne.symm n1) h1x)
      · rw [List.getElem?_set_ne n2] at h4
        exact R.di j k o o' a h1 h2 h3 h4
  mi := R.mi
/-- a slot is forgotten -/
theorem Rl.forget {i : Nat} {x : Option V} (R : Rl K F G H σ ρ) (hf : freeAt ρ i = true) : Rl K F G H (σ.set i x) (ρ.set i .none) where
  gh := R.gh
  g0 := R.g0
  gn := R.gn
  hk := R.hk
  hm := fun j a h => by
    obtain ⟨h1, h2, o, h3⟩ := R.hm j a h
    refine ⟨h1, h2, o, ?_⟩
    by_cases e : i = j
    · subst e
      unfold freeAt at hf
      rw [h3] at hf
      cases hf
    · rw [List.getElem?_set_ne e]; exact h3
  hl := fun j a h => by
    obtain ⟨o, h3⟩ := R.hl j a h
    refine ⟨o, ?_⟩
    by_cases e : i = j
    · subst e
      unfold freeAt at hf
      rw [h3] at hf
      cases hf
    · rw [List.getElem?_set_ne e]; exact h3
  sl := fun j t h => by
    rcases getset h with ⟨rfl, rfl, hl⟩ | ⟨ne, h⟩
    · exact ⟨x, by rw [List.getElem?_set_self (R.lt hl)], trivial⟩
    · obtain ⟨x, h1, h2⟩ := R.sl j t h
      exact ⟨x, by rw [List.getElem?_set_ne ne]; exact h1, h2⟩
  di := fun j k o o' a h1 h2 h3 h4 => by
    rcases getset h1 with ⟨rfl, e, _⟩ | ⟨n1, h1⟩
    · cases e
    · rcases getset h2 with ⟨rfl, e, _⟩ | ⟨n2, h2⟩
      · cases e
      · rw [List.getElem?_set_ne n1] at h3
        rw [List.getElem?_set_ne n2] at h4
        exact R.di j k o o' a h1 h2 h3 h4
  mi := R.mi
/-- what is owned changes -/
def Slot.re : Slot → O → Option Slot
  | .own _, o => some (.own o)
  | .bor _, o => some (.bor o)
  | _, _ => Option.none
def Slot.co : Slot → Option O
  | .own o | .bor o => some o
  | _ => Option.none
theorem re_cases {s s' : Slot} {o : O} (h : s.re o = some s') : (∃ u, s = .own u ∧ s' = .own o) ∨ (∃ u, s = .bor u ∧ s' = .bor o) := by
  cases s <;> simp [Slot.re] at h
  · exact .inl ⟨_, rfl, h.symm⟩
  · exact .inr ⟨_, rfl, h.symm⟩
theorem co_cases {s : Slot} {o : O} (h : s.co = some o) : s = .own o ∨ s = .bor o := by
  cases s <;> simp [Slot.co] at h
  · exact .inl (by rw [h])
  · exact .inr (by rw [h])
theorem Rl.holder {i : Nat} {s : Slot} {o : O} (R : Rl K F G H σ ρ) (h : ρ[i]? = some s) (hc : s.co = some o) : ∃ a, σ[i]? = some (some (.ref a)) ∧ G a = none ∧ ObjO K G H a o := by
  rcases co_cases hc with rfl | rfl
  · obtain ⟨a, h1, _, h2, h3⟩ := R.own h
    exact ⟨a, h1, h2, h3⟩
  · obtain ⟨a, h1, _, h2, h3⟩ := R.bor h
    exact ⟨a, h1, h2, h3⟩
theorem Rl.mut {i : Nat} {s s' : Slot} {o : O} {u : HO} (R : Rl K F G H σ ρ) (h : ρ[i]? = some s) (hs : s.re o = some s') (hv : σ[i]? = some (some (.ref a))) (ho : ObjO K G (upd H a u) a o) : Rl K F G (upd H a u) σ (ρ.set i s') := by
  have hil : i < ρ.length := (List.getElem?_eq_some_iff.mp h).1
  have hg : G a = none := by
    rcases re_cases hs with ⟨u0, rfl, rfl⟩ | ⟨u0, rfl, rfl⟩
    · obtain ⟨b, h1, _, h2, _⟩ := R.own h
      rw [hv] at h1; cases h1; exact h2
    · obtain ⟨b, h1, _, h2, _⟩ := R.bor h
      rw [hv] at h1; cases h1; exact h2
  have hc : ∀ x, F.H0 a = some x → ∃ j, F.M j = some a := fun x e => by
    rcases re_cases hs with ⟨u0, rfl, rfl⟩ | ⟨u0, rfl, rfl⟩
    · obtain ⟨b, h1, h2, _⟩ := R.own h
      rw [hv] at h1; cases h1; rw [h2] at e; cases e
    · obtain ⟨b, h1, h2, _⟩ := R.bor h
      rw [hv] at h1; cases h1; exact ⟨i, h2⟩
  refine ⟨fun b x e => ?_, R.g0, R.gn, fun b x e n => ?_, fun j b e => ?_, fun j b e => ?_, fun j t e => ?_, fun j k w w' b h1 h2 h3 h4 => ?_, R.mi⟩
  · rw [upd_ne (ne_of_none e hg)]
    exact R.gh b x e
  · by_cases q : b = a
    · subst q
      obtain ⟨j, z⟩ := hc x e
      exact absurd z (n j)
    · rw [upd_ne q]
      exact R.hk b x e n
  · obtain ⟨h1, h2, w, h3⟩ := R.hm j b e
    refine ⟨fun z => ?_, h2, ?_⟩
    · by_cases q : b = a
      · rw [q, upd_same] at z; cases z
      · rw [upd_ne q] at z; exact h1 z
    · by_cases q : i = j
      · subst q
        rw [h] at h3
        rcases re_cases hs with ⟨u0, rfl, rfl⟩ | ⟨u0, rfl, rfl⟩
        · cases h3
        · exact ⟨o, List.getElem?_set_self hil⟩
      · rw [List.getElem?_set_ne q]
        exact ⟨w, h3⟩
  · obtain ⟨w, h3⟩ := R.hl j b e
    by_cases q : i = j
    · subst q
      rw [h] at h3
      rcases re_cases hs with ⟨u0, rfl, rfl⟩ | ⟨u0, rfl, rfl⟩ <;> cases h3
    · rw [List.getElem?_set_ne q]
      exact ⟨w, h3⟩
  · rcases getset e with ⟨rfl, rfl, _⟩ | ⟨ne, e'⟩
    · refine ⟨_, hv, ?_⟩
      rcases re_cases hs with ⟨u0, rfl, rfl⟩ | ⟨u0, rfl, rfl⟩
      · obtain ⟨b, h1, h2, h3, _⟩ := R.own h
        rw [hv] at h1; cases h1
        exact ⟨_, rfl, h2, h3, ho⟩
      · obtain ⟨b, h1, h2, h3, _⟩ := R.bor h
        rw [hv] at h1; cases h1
        exact ⟨_, rfl, h2, h3, ho⟩
    · obtain ⟨x, h1, h2⟩ := R.sl j t e'
      refine ⟨x, h1, ?_⟩
      have far : ∀ {b w}, b ≠ a → ObjO K G H b w → ObjO K G (upd H a u) b w := fun {b w} q z => z.mono (Same.refl G) fun y e => by rw [upd_ne q]; exact e
      cases t with
      | none => trivial
      | val d => exact h2
      | own w =>
        obtain ⟨b, rfl, e2, e3, e4⟩ := h2
        refine ⟨b, rfl, e2, e3, far (fun q => ?_) e4⟩
        subst q
        rcases re_cases hs with ⟨u0, rfl, rfl⟩ | ⟨u0, rfl, rfl⟩
        · exact ne (R.di i j _ _ b h e' hv h1)
        · obtain ⟨c, h1, h2, _⟩ := R.bor h
          rw [hv] at h1; cases h1
          exact (R.hm i _ h2).2.1 e2
      | bor w =>
        obtain ⟨b, rfl, e2, e3, e4⟩ := h2
        refine ⟨b, rfl, e2, e3, far (fun q => ?_) e4⟩
        subst q
        rcases re_cases hs with ⟨u0, rfl, rfl⟩ | ⟨u0, rfl, rfl⟩
        · obtain ⟨c, h1, h2, _⟩ := R.own h
          rw [hv] at h1; cases h1
          exact (R.hm j _ e2).2.1 h2
        · obtain ⟨c, h1, h2, _⟩ := R.bor h
          rw [hv] at h1; cases h1
          exact ne (R.mi i j b h2 e2)
      | lck w =>
        obtain ⟨b, y, rfl, e2, e3, e5, e6, e4⟩ := h2
        refine ⟨b, y, rfl, e2, e3, e5, e6, far (fun q => ?_) e4⟩
        subst q
        obtain ⟨j, z⟩ := hc y e5
        exact e6 j z
  · rcases getset h1 with ⟨rfl, e1, _⟩ | ⟨n1, h1'⟩
    · rcases getset h2 with ⟨rfl, _, _⟩ | ⟨n2, h2'⟩
      · rfl
      · rcases re_cases hs with ⟨u0, rfl, rfl⟩ | ⟨u0, rfl, rfl⟩
        · exact R.di _ _ _ _ b h h2' h3 h4
        · cases e1
    · rcases getset h2 with ⟨rfl, e2, _⟩ | ⟨n2, h2'⟩
      · rcases re_cases hs with ⟨u0, rfl, rfl⟩ | ⟨u0, rfl, rfl⟩
        · exact R.di _ _ _ _ b h1' h h3 h4
        · cases e2
      · exact R.di j k w w' b h1' h2' h3 h4
end
end DL
set_option Elab.async false
set_option linter.all false
set_option maxRecDepth 100000
set_option maxHeartbeats 2000000
namespace DD
open PySem PySem.Spec PyProof.Rows L2
section
variable {X : Cx}
/-- repr(x), x a list, tuple or dict of data -/
def rReprD (K : PySem.W.Frag) : List V → Hp → VK → Prop := fun xs H Q => ∃ a d, xs = [.ref a] ∧ Dp K H (.ref a) d ∧ d.showable = true ∧ d.hasDict = false ∧ d.depth ≤ 60 ∧ d.shown.length ≤ sizeLine ∧ Q (.str d.shown) H
theorem call_reprD (hg : X.A.guards = some []) (hu : X.A.units + 64 < cLine) : CallR X (.builtin "repr") (rReprD X.K) := by
  intro pins s σ H xs us Q I r h
  obtain ⟨a, d, rfl, hd, hs, hn, hp, hz, q⟩ := h
  obtain ⟨u, rfl, ru⟩ := r.one
  obtain ⟨as, rd⟩ := Dp.reads I d _ u hd ru
  obtain rfl : u = Value.ref a := ru
  exact repr_of_reads' rd hs (fun e => by rw [hn] at e; cases e) hg (by omega) (fun _ _ e => e) (fun h' u tk hk => ⟨.str d.shown, H, I.kept hk, ⟨u, rfl⟩, q⟩) hz
end
section
variable {P : Program} {w : World} {K : PySem.W.Frag} {mg : Str → Option Value} {base : Heap}
/-- a def's promise where the guards are known -/
def FnG (P : Program) (w : World) (K : PySem.W.Frag) (mg : Str → Option Value) (base : Heap) (k : Nat) (f : Addr) (fd : FuncData) (ps : List Str) (sp : Sp) : Prop :=
  ∀ (A : Around) (outer : List Env) (s : Shared) (H : Hp) (args : Args) (us : List Value) (vs : List V) (Q : VK) (E : XK), Room k A → A.guards = some [] → Env0 P w K mg base A outer s H → BindsTo s fd args (ps.zip us) → Vals vs us → sp vs H Q E →
    codeAny (model P w) A (.call (.ref f) args) (CR CX0 outer P w H s Q E) s
theorem fnG_of {name qual : Str} {params : Arguments} {body : List Stmt} {scope : Scope} {dV kV doc pm cdv ct oc : Value} {an od : Option Addr} {f : Addr} {k : Nat} {osl : Array (Option Value)} {N ps : List Str} {sp : Sp}
    (lk : K.lookup f = some ⟨oc, od, .func (PySem.W.fnOf name qual params body scope dV kV doc pm an cdv ct), osl⟩) (hcd : PySem.W.codeIn K cdv qual = true) (S : FnScope N ps scope) (len : ∀ vs H Q E, sp vs H Q E → vs.length = ps.length)
    (hbody : ∀ (A : Around) (outer : List Env) (s : Shared) (H : Hp) (vs : List V) (Q : VK) (E : XK), Room k (A.deeper (envOfC qual scope s.heap.objs.size f cdv)) → (A.deeper (envOfC qual scope s.heap.objs.size f cdv)).guards = some [] → sp vs H Q E →
      ∃ t, PSs (cxOf CX0 P w K mg base N qual scope f cdv A outer s H E).nox body t ∧ t { nx := fun _ H' => Q .non H', rt := Q } (start N vs) H) :
    FnG P w K mg base (k + 1) f (PySem.W.fnOf name qual params body scope dV kV doc pm an cdv ct) ps sp := by
  intro A outer s H args us vs Q E room hg e0 binds vals h
  have inS : ∀ {b : Addr} {o : Obj}, base.get? b = some o → s.heap.get? b = some o := fun e => (e0.bs _ _ e).1
  have kinS : K.In s.heap := e0.mod.kin.keeps fun _ _ => inS
  refine codeAny_call_function room.depth (kinS _ _ lk) rfl S.co S.gen rfl (PySem.W.codeRec_of kinS hcd) (binds _ _ _ _ (wpAny_newFunctionEnv_cells S.kind (fun y hy => ?_) fun env he s1 x => ?_))
  · have hp := S.par y.1 (List.of_mem_zip (show (y.1, y.2) ∈ ps.zip us from hy)).1
    exact hp.imp id fun c => ⟨c, PySem.W.cellsFrom_some _ _ _ (.inl c)⟩
  · cases he
    refine ⟨(e0.mod.nolimit.keeps fun _ _ => inS).keeps x.toInCall.keep, codeAny_func ?_⟩
    obtain ⟨t, run, start_⟩ := hbody A outer s H vs Q E (room.deeper _) (by exact hg) h
    have I : Inv (cxOf CX0 P w K mg base N qual scope f cdv A outer s H E) [] (start N vs) H s1 := inv_start S room.hd e0 (len _ _ _ _ h) vals x
    refine wpAny_mono (run.nox.run [] s1 (start N vs) H _ I start_) (fun fl s2 z => ?_) fun _ _ z => z
    cases fl with
    | ret u =>
      obtain ⟨v, σ', H', J, rv, qv⟩ := z
      exact ⟨v, H', J.os, J.bare, J.base, J.hok, rv, qv⟩
    | next =>
      obtain ⟨σ', H', J, qv⟩ := z
      exact ⟨.non, H', J.os, J.bare, J.base, J.hok, rfl, qv⟩
    | brk => exact z.choose_spec.choose_spec.2.elim
    | cont => exact z.choose_spec.choose_spec.2.elim
end
end DD
set_option Elab.async false
set_option linter.all false
set_option maxRecDepth 100000
set_option maxHeartbeats 2000000
namespace DD
open PySem PySem.Spec PyProof.Rows L2
abbrev Blk := Int × Int × Bool
/-- the word of a block: private or busy -/
def wd (b : Bool) : Str := if b = true then "private" else "busy"
def IsBk (h : Heap) (v : Value) (m : Blk) : Prop := ∃ a o t u z n, v = .ref a ∧ h.get? a = some o ∧ o.cls = .type "tuple" ∧ o.data = .seq #[.int m.1 t, .int m.2.1 u, .str (wd m.2.2) z] n
theorem IsBk.keeps {h h' : Heap} {v : Value} {m : Blk} (p : IsBk h v m) (k : ∀ b o, h.get? b = some o → o.cls = .type "tuple" → h'.get? b = some o) : IsBk h' v m := by
  obtain ⟨a, o, t, u, z, n, e, ho, hc, hd⟩ := p
  exact ⟨a, o, t, u, z, n, e, k _ _ ho hc, hc, hd⟩
theorem wd_eq {b c : Bool} : (wd b == wd c) = (b == c) := by cases b <;> cases c <;> decide +kernel
end DD
set_option Elab.async false
set_option linter.all false
set_option maxRecDepth 100000
set_option maxHeartbeats 2000000
namespace DD
open PySem PySem.Spec PyProof.Rows L2
end DD
set_option Elab.async false
set_option linter.all false
set_option maxRecDepth 100000
set_option maxHeartbeats 2000000
namespace DD
open PySem PySem.Spec PyProof.Rows L2
end DD
set_option Elab.async false
set_option linter.all false
set_option maxRecDepth 100000
set_option maxHeartbeats 2000000
namespace DD
open PySem PySem.Spec PyProof.Rows L2
end DD
set_option Elab.async false
set_option linter.all false
set_option maxRecDepth 100000
set_option maxHeartbeats 2000000
namespace DD
open PySem PySem.Spec PyProof.Rows L2
section
variable {X : Cx}
def rLtD (K : PySem.W.Frag) : R2 := fun x y H Q => ∃ d e, Dp K H x d ∧ Dp K H y e ∧ PySem.W.alike d e = true ∧ d ≠ .none ∧ min d.depth e.depth ≤ 60 ∧ Q (.bl (PySem.W.dataLt d e)) H
theorem op_ltD (hu : X.A.units + 64 < cLine) : OpR X (compareOp .Lt) (rLtD X.K) := by
  intro pins s σ H x y v u Q I rx ry h
  obtain ⟨d, e, hd, he, ha, hn, hp, q⟩ := h
  obtain ⟨as, r1⟩ := Dp.reads I d x v hd rx
  obtain ⟨bs, r2⟩ := Dp.reads I e y u he ry
  show wpAny _ _ (richCompare .Lt v u) _ _ _
  exact PySem.W.rcLt_alike d e X.A s v u as bs r1 r2 ha hn (by omega) X.prog X.w _ _ ⟨.bl _, H, I, rfl, q⟩
end
end DD
set_option Elab.async false
set_option linter.all false
set_option maxRecDepth 100000
set_option maxHeartbeats 2000000
namespace DL
open PySem PySem.Spec PyProof.Rows L2 DD
/-- what an expression hands on: data, an owner's slot, a new owned thing -/
inductive X where
  | val (d : D) | own (i : Nat) | new (o : O)
def X.settle : X → X
  | .new o => .val o.d
  | x => x
def Slot.dd : Slot → Option D
  | .val d => some d
  | .own o | .bor o | .lck o => some o.d
  | .none => Option.none
def deref (ρ : En) : X → Option D
  | .val d => some d
  | .new o => some o.d
  | .own i => ρ[i]?.bind Slot.dd
/-- as frozen data -/
def toVal (ρ : En) : X → Option (D × En)
  | .val d => some (d, ρ)
  | .new o => some (o.d, ρ)
  | .own i => match ρ[i]? with
    | some (.val d) => some (d, ρ)
    | some (.own o) => some (o.d, ρ.set i (.val o.d))
    | _ => none
structure Xc where
  cls : Value
  ks : List Str
  ds : List D
inductive Res (α : Type) where
  | ok (a : α) (ρ : En) | err (x : Xc) (ρ : En) | stuck
def Res.bind {α β : Type} : Res α → (α → En → Res β) → Res β
  | .ok a ρ, U => U a ρ
  | .err x ρ, _ => .err x ρ
  | .stuck, _ => .stuck
def lift {α : Type} (o : Option α) (ρ : En) : Res α := match o with
  | some a => .ok a ρ
  | none => .stuck
def RepX (K : Fg) (F : Fm) (G H : Hp) (σ : L2.St) (ρ : En) (v : V) : X → Prop
  | .val d => Rep K G v d
  | .own i => σ[i]? = some (some v)
  | .new o => ∃ a, v = .ref a ∧ F.H0 a = none ∧ G a = none ∧ ObjO K G H a o ∧ ∀ (j : Nat) (u : O), ρ[j]? = some (.own u) → σ[j]? ≠ some (some (.ref a))
/-- a value that is read: frozen, or owned by someone -/
def DRep (K : Fg) (G H : Hp) (v : V) (d : D) : Prop := Rep K G v d ∨ ∃ a o, v = .ref a ∧ d = O.d o ∧ ObjO K G H a o
inductive DRepA (K : Fg) (G H : Hp) : List V → List D → Prop
  | nil : DRepA K G H [] []
  | cons {v : V} {vs : List V} {d : D} {ds : List D} : DRep K G H v d → DRepA K G H vs ds → DRepA K G H (v :: vs) (d :: ds)
inductive RepXs (K : Fg) (F : Fm) (G H : Hp) (σ : L2.St) (ρ : En) : List V → List X → Prop
  | nil : RepXs K F G H σ ρ [] []
  | cons {v : V} {vs : List V} {x : X} {xs : List X} : RepX K F G H σ ρ v x → (∀ o, x ≠ .new o) → RepXs K F G H σ ρ vs xs → RepXs K F G H σ ρ (v :: vs) (x :: xs)
def XRep (K : Fg) (G H : Hp) (c : Value) (od : Option Addr) (x : Xc) : Prop := c = x.cls ∧ ((od = none ∧ x.ks = []) ∨ ∃ e fs, od = some e ∧ G e = some (.xd fs) ∧ fs.map (·.1) = x.ks ∧ RepA K G (fs.map (·.2)) x.ds)
section
variable {K : Fg} {F : Fm} {G G' H H' : Hp} {σ σ' : L2.St} {ρ ρ' : En} {v : V} {x : X} {d : D}
/-- a settled thing stays -/
theorem RepX.keep (h : RepX K F G H σ ρ v x) (n : ∀ o, x ≠ .new o) (e : Same G G') : RepX K F G' H' σ ρ' v x := by
  cases x with
  | val d => exact Rep.mono e h
  | own i => exact h
  | new o => exact absurd rfl (n o)
theorem settle_no : ∀ o, x.settle ≠ .new o := by
  intro o
  cases x <;> intro z <;> cases z
theorem ObjO.rep {a : Addr} {o : O} (h : ObjO K G H a o) : ∃ u, H a = some u ∧ ∀ G', Same G G' → G' a = some u → Rep K G' (.ref a) o.d := by
  cases o with
  | lst ds =>
    obtain ⟨vs, h1, h2⟩ := h
    exact ⟨_, h1, fun G' e g => .lst g (h2.mono e)⟩
  | ins C ks ds =>
    obtain ⟨dx, fs, h1, h2, h3⟩ := h
    exact ⟨_, h1, fun G' e g => .ins g h2 (h3.mono e)⟩
theorem Rl.settle (R : Rl K F G H σ ρ) (h : RepX K F G H σ ρ v x) : ∃ G', Rl K F G' H σ ρ ∧ Same G G' ∧ RepX K F G' H σ ρ v x.settle := by
  cases x with
  | val d => exact ⟨G, R, Same.refl G, h⟩
  | own i => exact ⟨G, R, Same.refl G, h⟩
  | new o =>
    obtain ⟨a, rfl, h0, hg, ho, n⟩ := h
    obtain ⟨u, hu, r⟩ := ho.rep
    exact ⟨upd G a u, R.frz hu h0 hg n, smNew hg, r _ (smNew hg) upd_same⟩
/-- the owner of slot i gives its thing up -/
theorem Rl.give {i : Nat} {o : O} (R : Rl K F G H σ ρ) (h : ρ[i]? = some (.own o)) : ∃ G' a, σ[i]? = some (some (.ref a)) ∧ Rl K F G' H σ (ρ.set i (.val o.d)) ∧ Same G G' ∧ Rep K G' (.ref a) o.d := by
  obtain ⟨a, hv, h0, hg, ho⟩ := R.own h
  obtain ⟨u, hu, r⟩ := ho.rep
  have hil : i < ρ.length := (List.getElem?_eq_some_iff.mp h).1
  have hf : freeAt ρ i = true := by unfold freeAt; rw [h]; rfl
  have R1 : Rl K F G H (σ.set i (some (.ref a))) (ρ.set i .none) := R.forget hf
  have eσ : σ.set i (some (.ref a)) = σ := by
    apply List.ext_getElem?
    intro j
    by_cases e : i = j
    · subst e
      rw [List.getElem?_set_self (R.lt hil), hv]
    · rw [List.getElem?_set_ne e]
  rw [eσ] at R1
  have n : ∀ (j : Nat) (u : O), (ρ.set i Slot.none)[j]? = some (.own u) → σ[j]? ≠ some (some (.ref a)) := fun j u hj z => by
    rcases getset hj with ⟨_, e, _⟩ | ⟨ne, hj⟩
    · cases e
    · exact ne (R.di i j _ _ a h hj hv z)
  have R2 := R1.frz hu h0 hg n
  have rp := r _ (smNew (o := u) hg) upd_same
  have R3 := R2.put (i := i) (v := .ref a) (s := .val o.d) (by unfold freeAt; rw [List.getElem?_set_self hil]; rfl) ⟨_, rfl, rp⟩ rfl (fun o e => by cases e)
  rw [eσ, List.set_set] at R3
  exact ⟨_, a, hv, R3, smNew hg, rp⟩
theorem Rl.toVal (R : Rl K F G H σ ρ) (h : RepX K F G H σ ρ v x) (e : toVal ρ x = some (d, ρ')) : ∃ G', Rl K F G' H σ ρ' ∧ Same G G' ∧ Rep K G' v d := by
  cases x with
  | val d' =>
    cases e
    exact ⟨G, R, Same.refl G, h⟩
  | new o =>
    cases e
    obtain ⟨G', R', s, r⟩ := R.settle h
    exact ⟨G', R', s, r⟩
  | own i =>
    simp only [DL.toVal] at e
    cases e2 : ρ[i]? with
    | none => rw [e2] at e; cases e
    | some s =>
      rw [e2] at e
      cases s with
      | val d' =>
        cases e
        obtain ⟨v', h1, h2⟩ := R.val e2
        rw [show σ[i]? = some (some v) from h] at h1
        cases h1
        exact ⟨G, R, Same.refl G, h2⟩
      | own o =>
        cases e
        obtain ⟨G', a, h1, R', s, r⟩ := R.give e2
        rw [show σ[i]? = some (some v) from h] at h1
        cases h1
        exact ⟨G', R', s, r⟩
      | none => cases e
      | bor o => cases e
      | lck o => cases e
theorem Rl.deref (R : Rl K F G H σ ρ) (h : RepX K F G H σ ρ v x) (e : deref ρ x = some d) : DRep K G H v d := by
  cases x with
  | val d' => cases e; exact .inl h
  | new o =>
    cases e
    obtain ⟨a, rfl, _, _, ho, _⟩ := h
    exact .inr ⟨a, o, rfl, rfl, ho⟩
  | own i =>
    simp only [DL.deref] at e
    cases e2 : ρ[i]? with
    | none => rw [e2] at e; cases e
    | some s =>
      rw [e2] at e
      obtain ⟨x, h1, h2⟩ := R.sl i s e2
      rw [show σ[i]? = some (some v) from h] at h1
      cases h1
      cases s with
      | none => cases e
      | val d' =>
        cases e
        obtain ⟨v', e3, h3⟩ := h2
        cases e3
        exact .inl h3
      | own o =>
        cases e
        obtain ⟨a, e3, _, _, h3⟩ := h2
        cases e3
        exact .inr ⟨a, o, rfl, rfl, h3⟩
      | bor o =>
        cases e
        obtain ⟨a, e3, _, _, h3⟩ := h2
        cases e3
        exact .inr ⟨a, o, rfl, rfl, h3⟩
      | lck o =>
        cases e
        obtain ⟨a, u, e3, _, _, _, _, h3⟩ := h2
        cases e3
        exact .inr ⟨a, o, rfl, rfl, h3⟩
theorem DRep.rep (e : Same G H) (h : DRep K G H v d) : Rep K H v d := by
  rcases h with h | ⟨a, o, rfl, rfl, h⟩
  · exact h.mono e
  · obtain ⟨u, hu, r⟩ := h.rep
    exact r H e hu
theorem DRep.non (h : DRep K G H v .non) : v = .non := by
  rcases h with h | ⟨a, o, rfl, e, _⟩
  · cases h; rfl
  · cases o <;> cases e
theorem DRep.bl {b : Bool} (h : DRep K G H v (.bl b)) : v = .bl b := by
  rcases h with h | ⟨a, o, rfl, e, _⟩
  · cases h; rfl
  · cases o <;> cases e
theorem DRep.int {i : Int} (h : DRep K G H v (.int i)) : v = .int i := by
  rcases h with h | ⟨a, o, rfl, e, _⟩
  · cases h; rfl
  · cases o <;> cases e
theorem DRep.str {z : Str} (h : DRep K G H v (.str z)) : v = .str z := by
  rcases h with h | ⟨a, o, rfl, e, _⟩
  · cases h; rfl
  · cases o <;> cases e
theorem DRep.tup {ds : List D} (e : Same G H) (h : DRep K G H v (.tup ds)) : ∃ a vs, v = .ref a ∧ SqT K G a vs ∧ SqT K H a vs ∧ RepA K G vs ds := by
  rcases h with h | ⟨a, o, rfl, e, _⟩
  · cases h with
    | tup h1 h2 => exact ⟨_, _, rfl, h1, smTup e h1, h2⟩
  · cases o <;> cases e
theorem DRep.lst {ds : List D} (e : Same G H) (h : DRep K G H v (.lst ds)) : ∃ a vs, v = .ref a ∧ H a = some (.lst vs) ∧ RepA K G vs ds := by
  rcases h with h | ⟨a, o, rfl, e2, h⟩
  · cases h with
    | lst h1 h2 => exact ⟨_, _, rfl, e _ _ h1, h2⟩
  · cases o with
    | lst ds' =>
      cases e2
      obtain ⟨vs, h1, h2⟩ := h
      exact ⟨a, vs, rfl, h1, h2⟩
    | ins C ks ds' => cases e2
theorem DRep.scr {ds : List D} (e : Same G H) (h : DRep K G H v (.scr ds)) : ∃ a vs, v = .ref a ∧ SqL K H a vs ∧ RepA K G vs ds := by
  rcases h with h | ⟨a, o, rfl, e2, h⟩
  · cases h with
    | scr h1 h2 => exact ⟨_, _, rfl, smLst e h1, h2⟩
  · cases o <;> cases e2
theorem DRep.ins {C : Addr} {ks : List Str} {ds : List D} (e : Same G H) (h : DRep K G H v (.ins C ks ds)) : ∃ a dx fs, v = .ref a ∧ H a = some (.ins C dx fs) ∧ fs.map (·.1) = ks ∧ RepA K G (fs.map (·.2)) ds := by
  rcases h with h | ⟨a, o, rfl, e2, h⟩
  · cases h with
    | ins h1 h2 h3 => exact ⟨_, _, _, rfl, e _ _ h1, h2, h3⟩
  · cases o with
    | lst ds' => cases e2
    | ins C' ks' ds' =>
      cases e2
      obtain ⟨dx, fs, h1, h2, h3⟩ := h
      exact ⟨a, dx, fs, rfl, h1, h2, h3⟩
end
abbrev Rel (β α : Type) := Fm → Hp → Hp → L2.St → En → β → α → Prop
def Wants {α β : Type} (K : Fg) (E : XK) (rel : Rel β α) (F : Fm) (G : Hp) (σ : L2.St) (Q : β → Hp → Prop) : Res α → Prop
  | .ok a ρ' => ∀ b G' H', Rl K F G' H' σ ρ' → Same G G' → rel F G' H' σ ρ' b a → Q b H'
  | .err x ρ' => ∀ c od G' H', Rl K F G' H' σ ρ' → Same G G' → XRep K G' H' c od x → E c od H'
  | .stuck => False
def LG {α β : Type} (K : Fg) (E : XK) (rel : Rel β α) (t : L2.St → Hp → (β → Hp → Prop) → Prop) (T : En → Res α) : Prop :=
  ∀ (F : Fm) (G H : Hp) (σ : L2.St) (ρ : En) (Q : β → Hp → Prop), Rl K F G H σ ρ → Wants K E rel F G σ Q (T ρ) → t σ H Q
abbrev LE (K : Fg) (E : XK) (t : TE) (T : En → Res X) : Prop := LG K E (RepX K) t T
abbrev LA (K : Fg) (E : XK) (t : TA) (T : En → Res (List X)) : Prop := LG K E (RepXs K) t T
abbrev LT (K : Fg) (E : XK) (t : TT) (T : En → Res Bool) : Prop := LG K E (fun _ _ _ _ _ b a => b = a) t T
section
variable {α β γ δ : Type} {K : Fg} {E : XK} {F : Fm} {G G' H H' : Hp} {σ : L2.St} {ρ ρ' : En}
theorem Wants.mono {rel : Rel β α} {Q : β → Hp → Prop} {r : Res α} (e : Same G G') (h : Wants K E rel F G σ Q r) : Wants K E rel F G' σ Q r := by
  cases r with
  | ok a ρ' => exact fun b G2 H2 R s q => h b G2 H2 R (e.trans s) q
  | err x ρ' => exact fun c od G2 H2 R s q => h c od G2 H2 R (e.trans s) q
  | stuck => exact h
theorem Wants.bind {rel : Rel β α} {rel2 : Rel δ γ} {Q : δ → Hp → Prop} {Q1 : β → Hp → Prop} {r : Res α} {U : α → En → Res γ} (h : Wants K E rel2 F G σ Q (r.bind U))
    (k : ∀ b a G' H' ρ', Rl K F G' H' σ ρ' → Same G G' → rel F G' H' σ ρ' b a → Wants K E rel2 F G' σ Q (U a ρ') → Q1 b H') : Wants K E rel F G σ Q1 r := by
  cases r with
  | ok a ρ' => exact fun b G2 H2 R s q => k b a G2 H2 ρ' R s q (Wants.mono s h)
  | err x ρ' => exact h
  | stuck => exact h
theorem LG.bind {rel : Rel β α} {rel2 : Rel δ γ} {t : L2.St → Hp → (β → Hp → Prop) → Prop} {T : En → Res α} {k : β → L2.St → Hp → (δ → Hp → Prop) → Prop} {U : α → En → Res γ} (h : LG K E rel t T)
    (h2 : ∀ F G H σ ρ b a Q, Rl K F G H σ ρ → rel F G H σ ρ b a → Wants K E rel2 F G σ Q (U a ρ) → k b σ H Q) : LG K E rel2 (fun σ H Q => t σ H fun b H1 => k b σ H1 Q) (fun ρ => (T ρ).bind U) := by
  intro F G H σ ρ Q R w
  exact h F G H σ ρ _ R (w.bind fun b a G' H' ρ' R' s q w' => h2 F G' H' σ ρ' b a Q R' q w')
/-- what ends here -/
theorem Wants.lift {rel : Rel β α} {Q : β → Hp → Prop} {o : Option α} (h : Wants K E rel F G σ Q (lift o ρ)) : ∃ a, o = some a ∧ ∀ b G' H', Rl K F G' H' σ ρ → Same G G' → rel F G' H' σ ρ b a → Q b H' := by
  cases o with
  | none => exact h.elim
  | some a => exact ⟨a, rfl, h⟩
end
def dVar (i : Nat) : En → Res X := fun ρ => match ρ[i]? with
  | some (.val d) => .ok (.val d) ρ
  | some (.own _) | some (.bor _) | some (.lck _) => .ok (.own i) ρ
  | _ => .stuck
def dC (d : D) : En → Res X := fun ρ => .ok (.val d) ρ
section
variable {K : Fg} {E : XK}
theorem L_var {i : Nat} : LE K E (tVar i) (dVar i) := by
  intro F G H σ ρ Q R w
  unfold dVar at w
  cases e : ρ[i]? with
  | none => rw [e] at w; exact w.elim
  | some s =>
    rw [e] at w
    cases s with
    | none => exact w.elim
    | val d =>
      obtain ⟨v, h1, h2⟩ := R.val e
      exact ⟨v, h1, w v G H R (Same.refl G) h2⟩
    | own o =>
      obtain ⟨a, h1, _⟩ := R.own e
      exact ⟨_, h1, w _ G H R (Same.refl G) h1⟩
    | bor o =>
      obtain ⟨a, h1, _⟩ := R.bor e
      exact ⟨_, h1, w _ G H R (Same.refl G) h1⟩
    | lck o =>
      obtain ⟨x, h1, a, u, rfl, _⟩ := R.sl i _ e
      exact ⟨_, h1, w _ G H R (Same.refl G) h1⟩
theorem L_c {v : V} {d : D} (h : ∀ G, Rep K G v d) : LE K E (tC v) (dC d) := fun F G H σ ρ Q R w => w v G H R (Same.refl G) (h G)
theorem L_int {i : Int} : LE K E (tC (.int i)) (dC (.int i)) := L_c fun _ => .int i
theorem L_bl {b : Bool} : LE K E (tC (.bl b)) (dC (.bl b)) := L_c fun _ => .bl b
theorem L_str {z : Str} : LE K E (tC (.str z)) (dC (.str z)) := L_c fun _ => .str z
theorem L_non : LE K E (tC .non) (dC .non) := L_c fun _ => .non
end
abbrev D2 := D → D → Option X
def OpS (K : Fg) (r : R2) (op : D2) : Prop := ∀ (F : Fm) (G H : Hp) (σ : L2.St) (ρ : En) (x y : V) (d e : D) (z : X) (Q : VK), Rl K F G H σ ρ → DRep K G H x d → DRep K G H y e → op d e = some z →
  (∀ v G' H', Rl K F G' H' σ ρ → Same G G' → RepX K F G' H' σ ρ v z → Q v H') → r x y H Q
@[simp] def ap2 (op : D2) (a b : X) (ρ : En) : Res X := match deref ρ a, deref ρ b with
  | some d, some e => lift (op d e) ρ
  | _, _ => .stuck
def dBin (op : D2) (A B : En → Res X) : En → Res X := fun ρ => (A ρ).bind fun a ρ1 => (B ρ1).bind fun b ρ2 => ap2 op a.settle b ρ2
section
variable {K : Fg} {E : XK} {r r' : R2} {op op' : D2} {ta tb tc : TE} {A B C : En → Res X}
theorem ap2_run {F : Fm} {G H : Hp} {σ : L2.St} {ρ : En} {Q : VK} {x y : V} {a b : X} (hr : OpS K r op) (R : Rl K F G H σ ρ) (hx : RepX K F G H σ ρ x a) (hy : RepX K F G H σ ρ y b) (w : Wants K E (RepX K) F G σ Q (ap2 op a b ρ)) : r x y H Q := by
  unfold ap2 at w
  cases e1 : deref ρ a with
  | none => rw [e1] at w; exact w.elim
  | some d =>
    cases e2 : deref ρ b with
    | none => rw [e1, e2] at w; exact w.elim
    | some e =>
      rw [e1, e2] at w
      obtain ⟨z, ez, q⟩ := w.lift
      exact hr F G H σ ρ x y d e z Q R (R.deref hx e1) (R.deref hy e2) ez q
theorem L_bin (hr : OpS K r op) (ha : LE K E ta A) (hb : LE K E tb B) : LE K E (tOp r ta tb) (dBin op A B) := by
  refine LG.bind (k := fun x σ H Q => tb σ H fun y H2 => r x y H2 Q) ha fun F G H σ ρ x a Q R hx w => ?_
  obtain ⟨G1, R1, s1, hx1⟩ := R.settle hx
  refine hb F G1 H σ ρ _ R1 ((w.mono s1).bind fun y b G2 H2 ρ2 R2 s2 hy w2 => ?_)
  exact ap2_run hr R2 (hx1.keep settle_no s2) hy w2
@[simp] def opI (g : Int → Int → D) : D2
  | .int i, .int j => some (.val (g i j))
  | _, _ => none
open Classical in
@[simp] noncomputable def opIC (C : Int → Int → Prop) (g : Int → Int → D) : D2
  | .int i, .int j => if C i j then some (.val (g i j)) else none
  | _, _ => none
theorem S_I0 {g : Int → Int → V} {g' : Int → Int → D} (hg : ∀ i j G, Rep K G (g i j) (g' i j)) : OpS K (rI0 g) (opI g') := by
  intro F G H σ ρ x y d e z Q R hx hy ez q
  cases d <;> cases e <;> first | cases ez | skip
  exact ⟨_, _, hx.int, hy.int, q _ G H R (Same.refl G) (hg _ _ G)⟩
theorem S_IC {C : Int → Int → Prop} {g : Int → Int → V} {g' : Int → Int → D} (hg : ∀ i j G, Rep K G (g i j) (g' i j)) : OpS K (rI C g) (opIC C g') := by
  intro F G H σ ρ x y d e z Q R hx hy ez q
  cases d <;> cases e <;> first | cases ez | skip
  simp only [opIC] at ez
  split at ez
  · rename_i hc
    cases ez
    exact ⟨_, _, hx.int, hy.int, hc, q _ G H R (Same.refl G) (hg _ _ G)⟩
  · cases ez
end
end DL
set_option Elab.async false
set_option linter.all false
set_option maxRecDepth 100000
set_option maxHeartbeats 2000000
namespace DL
open PySem PySem.Spec PyProof.Rows L2 DD
mutual
def D.py : D → Option PyData
  | .non => some .none
  | .bl b => some (.bool b)
  | .int i => some (.int i)
  | .str x => some (.str x)
  | .tup ds => (D.pyA ds).map PyData.tuple
  | .lst ds => (D.pyA ds).map PyData.list
  | .scr ds => (D.pyA ds).map PyData.list
  | .ins .. | .cls _ => none
def D.pyA : List D → Option (List PyData)
  | [] => some []
  | d :: ds => match D.py d, D.pyA ds with
    | some p, some ps => some (p :: ps)
    | _, _ => none
end
theorem pyA_cons {d : D} {ds : List D} {ps : List PyData} (h : D.pyA (d :: ds) = some ps) : ∃ p r, ps = p :: r ∧ d.py = some p ∧ D.pyA ds = some r := by
  simp only [D.pyA] at h
  cases e1 : d.py with
  | none => rw [e1] at h; cases h
  | some p =>
    cases e2 : D.pyA ds with
    | none => rw [e1, e2] at h; cases h
    | some r => rw [e1, e2] at h; cases h; exact ⟨p, r, rfl, rfl, rfl⟩
section
variable {K : Fg} {H : Hp}
mutual
theorem Rep.dp : ∀ {v : V} {d : D} {p : PyData}, Rep K H v d → d.py = some p → Dp K H v p
  | _, _, _, .non, e => by cases e; exact .non
  | _, _, _, .bl b, e => by cases e; exact .bl b
  | _, _, _, .int i, e => by cases e; exact .int i
  | _, _, _, .str x, e => by cases e; exact .str x
  | _, .tup ds, _, .tup h r, e => by
    simp only [D.py] at e
    cases e2 : D.pyA ds with
    | none => rw [e2] at e; cases e
    | some ps => rw [e2] at e; cases e; exact .tup h (RepA.dp r e2)
  | _, .lst ds, _, .lst h r, e => by
    simp only [D.py] at e
    cases e2 : D.pyA ds with
    | none => rw [e2] at e; cases e
    | some ps => rw [e2] at e; cases e; exact .lst (.inl (.inl h)) (RepA.dp r e2)
  | _, .scr ds, _, .scr h r, e => by
    simp only [D.py] at e
    cases e2 : D.pyA ds with
    | none => rw [e2] at e; cases e
    | some ps => rw [e2] at e; cases e; exact .lst h (RepA.dp r e2)
  | _, _, _, .ins _ _ _, e => by cases e
  | _, _, _, .cls _, e => by cases e
theorem RepA.dp : ∀ {vs : List V} {ds : List D} {ps : List PyData}, RepA K H vs ds → D.pyA ds = some ps → DpAll K H vs ps
  | _, _, _, .nil, e => by cases e; exact .nil
  | _, d :: ds, _, .cons h r, e => by
    obtain ⟨p, r', rfl, e1, e2⟩ := pyA_cons e
    exact .cons (Rep.dp h e1) (RepA.dp r e2)
end
end
section
variable {K : Fg}
theorem S_add : OpS K (rI0 fun i j => .int (i + j)) (opI fun i j => .int (i + j)) := S_I0 fun _ _ _ => .int _
theorem S_sub : OpS K (rI0 fun i j => .int (i - j)) (opI fun i j => .int (i - j)) := S_I0 fun _ _ _ => .int _
theorem S_mul : OpS K (rI CMul fun i j => .int (i * j)) (opIC CMul fun i j => .int (i * j)) := S_IC fun _ _ _ => .int _
theorem S_fdiv : OpS K (rI CDiv fun i j => .int (i / j)) (opIC CDiv fun i j => .int (i / j)) := S_IC fun _ _ _ => .int _
theorem S_mod : OpS K (rI (fun _ j => 0 < j) fun i j => .int (i % j)) (opIC (fun _ j => 0 < j) fun i j => .int (i % j)) := S_IC fun _ _ _ => .int _
theorem S_pow : OpS K (rI CPow fun i j => .int (i ^ j.toNat)) (opIC CPow fun i j => .int (i ^ j.toNat)) := S_IC fun _ _ _ => .int _
theorem S_lt : OpS K (rI0 fun i j => .bl (decide (i < j))) (opI fun i j => .bl (decide (i < j))) := S_I0 fun _ _ _ => .bl _
theorem S_le : OpS K (rI0 fun i j => .bl (decide (i ≤ j))) (opI fun i j => .bl (decide (i ≤ j))) := S_I0 fun _ _ _ => .bl _
theorem S_gt : OpS K (rI0 fun i j => .bl (decide (j < i))) (opI fun i j => .bl (decide (j < i))) := S_I0 fun _ _ _ => .bl _
theorem S_ge : OpS K (rI0 fun i j => .bl (decide (j ≤ i))) (opI fun i j => .bl (decide (j ≤ i))) := S_I0 fun _ _ _ => .bl _
def rAddS : R2 := fun x y H Q => ∃ i j, x = .str i ∧ y = .str j ∧ i.length + j.length ≤ sizeLine ∧ Q (.str (i ++ j)) H
def opAddS : D2
  | .str i, .str j => if i.length + j.length ≤ sizeLine then some (.val (.str (i ++ j))) else none
  | _, _ => none
theorem S_addS : OpS K rAddS opAddS := by
  intro F G H σ ρ x y d e z Q R hx hy ez q
  cases d <;> cases e <;> first | cases ez | skip
  simp only [opAddS] at ez
  split at ez
  · rename_i hc
    cases ez
    exact ⟨_, _, hx.str, hy.str, hc, q _ G H R (Same.refl G) (.str _)⟩
  · cases ez
def opAddT : D2
  | .tup ds, .tup es => if ds.length + es.length ≤ sizeLine then some (.val (.tup (ds ++ es))) else none
  | _, _ => none
theorem S_addT : OpS K (rCatA K) opAddT := by
  intro F G H σ ρ x y d e z Q R hx hy ez q
  cases d <;> cases e <;> first | cases ez | skip
  rename_i ds es
  simp only [opAddT] at ez
  split at ez
  · rename_i hc
    cases ez
    obtain ⟨a, xs, rfl, g1, h1, r1⟩ := hx.tup R.gh
    obtain ⟨b, ys, rfl, g2, h2, r2⟩ := hy.tup R.gh
    refine ⟨a, b, xs, ys, rfl, rfl, h1, h2, by rw [r1.len, r2.len]; exact hc, fun e => ?_, fun _ e => ?_, fun _ _ p np => ?_⟩
    · subst e
      cases r1
      exact q _ G H R (Same.refl G) (.tup g2 r2)
    · subst e
      cases r2
      rw [List.append_nil] at q
      exact q _ G H R (Same.refl G) (.tup g1 r1)
    · have gp := R.freshG np
      exact q _ _ _ (R.add np) (smNew gp) (.tup (.inl (.inl upd_same)) ((r1.app r2).mono (smNew gp)))
  · cases ez
/-- a new list -/
theorem newL {F : Fm} {G H : Hp} {σ : L2.St} {ρ : En} {p : Addr} {vs : List V} {ds : List D} (R : Rl K F G H σ ρ) (np : H p = none) (r : RepA K G vs ds) : Rl K F G (upd H p (.lst vs)) σ ρ ∧ RepX K F G (upd H p (.lst vs)) σ ρ (.ref p) (.new (.lst ds)) := by
  refine ⟨R.laid np, p, rfl, R.fresh np, R.freshG np, ⟨vs, upd_same, r⟩, fun j u hj z => ?_⟩
  obtain ⟨b, h1, _, _, h4⟩ := R.own hj
  rw [h1] at z
  cases z
  obtain ⟨u, e⟩ := h4.ex
  rw [np] at e
  cases e
theorem newT {F : Fm} {G H : Hp} {σ : L2.St} {ρ : En} {p : Addr} {vs : List V} {ds : List D} (R : Rl K F G H σ ρ) (np : H p = none) (r : RepA K G vs ds) : Rl K F (upd G p (.tup vs)) (upd H p (.tup vs)) σ ρ ∧ Same G (upd G p (.tup vs)) ∧ Rep K (upd G p (.tup vs)) (.ref p) (.tup ds) :=
  ⟨R.add np, smNew (R.freshG np), .tup (.inl (.inl upd_same)) (r.mono (smNew (R.freshG np)))⟩
def opAddL : D2
  | .lst ds, .lst es => if ds.length + es.length ≤ sizeLine then some (.new (.lst (ds ++ es))) else none
  | _, _ => none
theorem S_addL : OpS K rCat opAddL := by
  intro F G H σ ρ x y d e z Q R hx hy ez q
  cases d <;> cases e <;> first | cases ez | skip
  rename_i ds es
  simp only [opAddL] at ez
  split at ez
  · rename_i hc
    cases ez
    obtain ⟨a, xs, rfl, h1, r1⟩ := hx.lst R.gh
    obtain ⟨b, ys, rfl, h2, r2⟩ := hy.lst R.gh
    refine ⟨a, b, xs, ys, rfl, rfl, h1, h2, by rw [r1.len, r2.len]; exact hc, fun p np => ?_⟩
    obtain ⟨R', x'⟩ := newL R np (r1.app r2)
    exact q _ _ _ R' (Same.refl G) x'
  · cases ez
def rAdd4 (K : Fg) : R2 := fun x y H Q => rI0 (fun i j => .int (i + j)) x y H Q ∨ rAddS x y H Q ∨ rCatA K x y H Q ∨ rCat x y H Q
@[simp] def opAdd : D2
  | .int i, .int j => some (.val (.int (i + j)))
  | .str i, .str j => if i.length + j.length ≤ sizeLine then some (.val (.str (i ++ j))) else none
  | .tup ds, .tup es => if ds.length + es.length ≤ sizeLine then some (.val (.tup (ds ++ es))) else none
  | .lst ds, .lst es => if ds.length + es.length ≤ sizeLine then some (.new (.lst (ds ++ es))) else none
  | _, _ => none
theorem S_add4 : OpS K (rAdd4 K) opAdd := by
  intro F G H σ ρ x y d e z Q R hx hy ez q
  cases d <;> cases e <;> first | cases ez | skip
  · exact .inl (S_add F G H σ ρ x y _ _ _ Q R hx hy rfl q)
  · exact .inr (.inl (S_addS F G H σ ρ x y _ _ _ Q R hx hy ez q))
  · exact .inr (.inr (.inl (S_addT F G H σ ρ x y _ _ _ Q R hx hy ez q)))
  · exact .inr (.inr (.inr (S_addL F G H σ ρ x y _ _ _ Q R hx hy ez q)))
end
theorem OpRor {X : Cx} {f : Value → Value → Sem Value} {r r' : R2} (h : OpR X f r) (h' : OpR X f r') : OpR X f (fun x y H Q => r x y H Q ∨ r' x y H Q) := by
  intro pins s σ H x y v u Q I rx ry q
  rcases q with q | q
  · exact h pins s σ H x y v u Q I rx ry q
  · exact h' pins s σ H x y v u Q I rx ry q
theorem op_add4 {X : Cx} {K : Fg} (h : X.K = K := by rfl) : OpR X (binaryOp .Add) (rAdd4 K) := h ▸ OpRor op_add (OpRor op_add_str (OpRor op_catA op_cat))
section
variable {K : Fg}
/-- == -/
def eqB : D → D → Option Bool
  | .str x, .str y => some (decide (x = y))
  | .int x, .int y => some (decide (x = y))
  | .bl x, .bl y => some (decide (x = y))
  | .non, .non => some true
  | d, e => match d.py, e.py with
    | some p, some q => if SeqAt.shaped p = true ∧ SeqAt.shaped q = true then some (PyData.eqv p q) else none
    | _, _ => match d, e with
      | .lst ds, .lst es => if ds.length = es.length then none else some false
      | _, _ => none
@[simp] def opEq : D2 := fun d e => (eqB d e).map fun b => .val (.bl b)
@[simp] def opNe : D2 := fun d e => (eqB d e).map fun b => .val (.bl !b)
def rEqL (K : Fg) : R2 := fun x y H Q => ∃ a b xs ys, x = .ref a ∧ y = .ref b ∧ SqL K H a xs ∧ SqL K H b ys ∧ xs.length ≠ ys.length ∧ Q (.bl false) H
def rNeL (K : Fg) : R2 := fun x y H Q => ∃ a b xs ys, x = .ref a ∧ y = .ref b ∧ SqL K H a xs ∧ SqL K H b ys ∧ xs.length ≠ ys.length ∧ Q (.bl true) H
theorem isL_of {h : Heap} {a : Addr} {vs : Array Value} (p : PlainL h a vs) : h.IsList a vs := by
  obtain ⟨o, n, h1, h2, h3, h4⟩ := p
  exact ⟨o, h1, h2, n, h4⟩
theorem op_eqL {X : Cx} (hu : X.A.units + 64 < cLine) : OpR X (compareOp .Eq) (rEqL X.K) := by
  intro pins s σ H x y v u Q I rx ry h
  obtain ⟨a, b, xs, ys, rfl, rfl, ha, hb, hn, q⟩ := h
  cases (show v = Value.ref a from rx)
  cases (show u = Value.ref b from ry)
  obtain ⟨is, ra, pa, _⟩ := I.list ha
  obtain ⟨js, rb, pb, _⟩ := I.list hb
  have l1 := ra.length
  have l2 := rb.length
  exact SeqAt.eq_list_lengthsAt (isL_of pa) (isL_of pb) (by simp; omega) (by omega) ⟨.bl false, H, I, rfl, q⟩
theorem op_neL {X : Cx} (hu : X.A.units + 64 < cLine) : OpR X (compareOp .NotEq) (rNeL X.K) := by
  intro pins s σ H x y v u Q I rx ry h
  obtain ⟨a, b, xs, ys, rfl, rfl, ha, hb, hn, q⟩ := h
  cases (show v = Value.ref a from rx)
  cases (show u = Value.ref b from ry)
  obtain ⟨is, ra, pa, _⟩ := I.list ha
  obtain ⟨js, rb, pb, _⟩ := I.list hb
  have l1 := ra.length
  have l2 := rb.length
  exact SeqAt.RcNeAt.lists_lengths (isL_of pa) (isL_of pb) (by simp; omega) (by omega) _ _ _ _ ⟨.bl true, H, I, rfl, q⟩
def rEq2 (K : Fg) : R2 := fun x y H Q => rEq x y H Q ∨ rEqD K x y H Q ∨ rEqL K x y H Q
def rNe2 (K : Fg) : R2 := fun x y H Q => rNe x y H Q ∨ rNeD K x y H Q ∨ rNeL K x y H Q
theorem S_eqB {F : Fm} {G H : Hp} {σ : L2.St} {ρ : En} {x y : V} {d e : D} {b : Bool} (R : Rl K F G H σ ρ) (hx : DRep K G H x d) (hy : DRep K G H y e) (ez : eqB d e = some b) :
    (scal x y = true ∧ decide (x = y) = b) ∨ (∃ p q, Dp K H x p ∧ Dp K H y q ∧ SeqAt.shaped p = true ∧ SeqAt.shaped q = true ∧ PyData.eqv p q = b) ∨ ∃ a b' xs ys, x = .ref a ∧ y = .ref b' ∧ SqL K H a xs ∧ SqL K H b' ys ∧ xs.length ≠ ys.length ∧ b = false := by
  unfold eqB at ez
  split at ez
  · cases ez
    obtain rfl := hx.str
    obtain rfl := hy.str
    exact .inl ⟨rfl, by simp⟩
  · cases ez
    obtain rfl := hx.int
    obtain rfl := hy.int
    exact .inl ⟨rfl, by simp⟩
  · cases ez
    obtain rfl := hx.bl
    obtain rfl := hy.bl
    exact .inl ⟨rfl, by simp⟩
  · cases ez
    obtain rfl := hx.non
    obtain rfl := hy.non
    exact .inl ⟨rfl, rfl⟩
  · split at ez
    · rename_i p q' e1 e2
      split at ez
      · rename_i hc
        cases ez
        exact .inr (.inl ⟨p, q', (hx.rep R.gh).dp e1, (hy.rep R.gh).dp e2, hc.1, hc.2, rfl⟩)
      · cases ez
    · split at ez
      · split at ez
        · cases ez
        · rename_i hl
          cases ez
          obtain ⟨a, xs, rfl, ha, ra⟩ := hx.lst R.gh
          obtain ⟨b', ys, rfl, hb, rb⟩ := hy.lst R.gh
          exact .inr (.inr ⟨a, b', xs, ys, rfl, rfl, .inl (.inl ha), .inl (.inl hb), by rw [ra.len, rb.len]; exact hl, rfl⟩)
      · cases ez
theorem S_eq : OpS K (rEq2 K) opEq := by
  intro F G H σ ρ x y d e z Q R hx hy ez q
  simp only [opEq, Option.map_eq_some_iff] at ez
  obtain ⟨b, eb, rfl⟩ := ez
  rcases S_eqB R hx hy eb with ⟨h1, rfl⟩ | ⟨p, q', h1, h2, h3, h4, rfl⟩ | ⟨a, b', xs, ys, h1, h2, h3, h4, h5, rfl⟩
  · exact .inl ⟨h1, q _ G H R (Same.refl G) (.bl _)⟩
  · exact .inr (.inl ⟨p, q', h1, h2, h3, h4, q _ G H R (Same.refl G) (.bl _)⟩)
  · exact .inr (.inr ⟨a, b', xs, ys, h1, h2, h3, h4, h5, q _ G H R (Same.refl G) (.bl _)⟩)
theorem S_ne : OpS K (rNe2 K) opNe := by
  intro F G H σ ρ x y d e z Q R hx hy ez q
  simp only [opNe, Option.map_eq_some_iff] at ez
  obtain ⟨b, eb, rfl⟩ := ez
  rcases S_eqB R hx hy eb with ⟨h1, rfl⟩ | ⟨p, q', h1, h2, h3, h4, rfl⟩ | ⟨a, b', xs, ys, h1, h2, h3, h4, h5, rfl⟩
  · exact .inl ⟨h1, q _ G H R (Same.refl G) (.bl _)⟩
  · exact .inr (.inl ⟨p, q', h1, h2, h3, h4, q _ G H R (Same.refl G) (.bl _)⟩)
  · exact .inr (.inr ⟨a, b', xs, ys, h1, h2, h3, h4, h5, q _ G H R (Same.refl G) (.bl _)⟩)
def opLtD : D2 := fun d e => match d.py, e.py with
  | some p, some q => if PySem.W.alike p q = true ∧ p.depth ≤ 60 then some (.val (.bl (PySem.W.dataLt p q))) else none
  | _, _ => none
def rLt2 (K : Fg) : R2 := fun x y H Q => rI0 (fun i j => .bl (decide (i < j))) x y H Q ∨ rLtD K x y H Q
@[simp] def opLt : D2
  | .int i, .int j => some (.val (.bl (decide (i < j))))
  | .tup ds, .tup es => opLtD (.tup ds) (.tup es)
  | .str x, .str y => opLtD (.str x) (.str y)
  | _, _ => none
theorem S_ltD {ds es : D} (hn : ds.py ≠ some .none) {F : Fm} {G H : Hp} {σ : L2.St} {ρ : En} {x y : V} {z : X} {Q : VK} (R : Rl K F G H σ ρ) (hx : DRep K G H x ds) (hy : DRep K G H y es) (ez : opLtD ds es = some z)
    (q : ∀ v G' H', Rl K F G' H' σ ρ → Same G G' → RepX K F G' H' σ ρ v z → Q v H') : rLtD K x y H Q := by
  simp only [opLtD] at ez
  split at ez
  · rename_i p q' e1 e2
    split at ez
    · rename_i hc
      cases ez
      exact ⟨p, q', (hx.rep R.gh).dp e1, (hy.rep R.gh).dp e2, hc.1, fun z => hn (by rw [e1, z]), by omega, q _ G H R (Same.refl G) (.bl _)⟩
    · cases ez
  · cases ez
theorem S_lt2 : OpS K (rLt2 K) opLt := by
  intro F G H σ ρ x y d e z Q R hx hy ez q
  cases d <;> cases e <;> first | (cases ez; done) | skip
  · exact .inl (S_lt F G H σ ρ x y _ _ _ Q R hx hy ez q)
  · exact .inr (S_ltD (fun z => by cases z) R hx hy ez q)
  · refine .inr (S_ltD (fun z => ?_) R hx hy ez q)
    simp only [D.py] at z
    rename_i ds _
    cases e2 : D.pyA ds with
    | none => rw [e2] at z; cases z
    | some ps => rw [e2] at z; cases z
end
theorem op_eq2 {X : Cx} {K : Fg} (hu : X.A.units + 64 < cLine) (h : X.K = K := by rfl) : OpR X (compareOp .Eq) (rEq2 K) := h ▸ OpRor op_eq (OpRor (op_eqD hu) (op_eqL hu))
theorem op_ne2 {X : Cx} {K : Fg} (hu : X.A.units + 64 < cLine) (h : X.K = K := by rfl) : OpR X (compareOp .NotEq) (rNe2 K) := h ▸ OpRor op_ne (OpRor (op_neD hu) (op_neL hu))
theorem op_lt2 {X : Cx} {K : Fg} (hu : X.A.units + 64 < cLine) (h : X.K = K := by rfl) : OpR X (compareOp .Lt) (rLt2 K) := h ▸ OpRor op_lt (op_ltD hu)
@[simp] def D.flat : D → Bool
  | .non | .bl _ | .int _ | .str _ => true
  | _ => false
@[simp] def D.items : D → Option (List D)
  | .tup ds | .lst ds | .scr ds => some ds
  | _ => none
def pyEq (d e : D) : Bool := match d.py, e.py with
  | some p, some q => PyData.eqv p q
  | _, _ => false
def inD (d : D) (es : List D) : Bool := es.any fun e => pyEq e d
section
variable {K : Fg} {G : Hp}
theorem flat_rep {v : V} {d : D} (h : Rep K G v d) (f : d.flat = true) : flatV v = true := by
  cases h <;> first | rfl | cases f
theorem flat_eq {v w : V} {d e : D} (h : Rep K G v d) (h' : Rep K G w e) (f : d.flat = true) (f' : e.flat = true) : eqV v w = pyEq d e := by
  cases h <;> first | (cases f; done) | skip
  all_goals (cases h' <;> first | (cases f'; done) | rfl)
theorem flat_all : ∀ {vs : List V} {ds : List D}, RepA K G vs ds → ds.all D.flat = true → vs.all flatV = true
  | _, _, .nil, _ => rfl
  | _, _, .cons h r, f => by
    rw [List.all_cons, Bool.and_eq_true] at f
    rw [List.all_cons, flat_rep h f.1, flat_all r f.2]
    rfl
theorem flat_in {w : V} {e : D} (h' : Rep K G w e) (f' : e.flat = true) : ∀ {vs : List V} {ds : List D}, RepA K G vs ds → ds.all D.flat = true → inV w vs = inD e ds
  | _, _, .nil, _ => rfl
  | _, _, .cons h r, f => by
    rw [List.all_cons, Bool.and_eq_true] at f
    have := flat_in h' f' r f.2
    unfold inV inD at this ⊢
    rw [List.any_cons, List.any_cons, flat_eq h h' f.1 f', this]
end
def opInB (d e : D) : Option Bool := match e.items with
  | some es => if d.flat = true ∧ es.all D.flat = true then some (inD d es) else
    match e, d.py, D.pyA es with
    | .lst _, some p, some ps => if SeqAt.shaped p = true ∧ SeqAt.shaped (.list ps) = true then some (ps.any fun z => PyData.eqv z p) else none
    | .tup _, some p, some ps => if SeqAt.shaped p = true ∧ SeqAt.shaped (.tuple ps) = true then some (ps.any fun z => PyData.eqv z p) else none
    | _, _, _ => none
  | none => none
@[simp] def opIn : D2 := fun d e => (opInB d e).map fun b => .val (.bl b)
@[simp] def opNotIn : D2 := fun d e => (opInB d e).map fun b => .val (.bl !b)
def rInDT (K : Fg) : R2 := fun x y H Q => ∃ d ds, Dp K H x d ∧ Dp K H y (.tuple ds) ∧ SeqAt.shaped d = true ∧ SeqAt.shaped (.tuple ds) = true ∧ Q (.bl (ds.any fun z => PyData.eqv z d)) H
def rNotInDT (K : Fg) : R2 := fun x y H Q => ∃ d ds, Dp K H x d ∧ Dp K H y (.tuple ds) ∧ SeqAt.shaped d = true ∧ SeqAt.shaped (.tuple ds) = true ∧ Q (.bl (!ds.any fun z => PyData.eqv z d)) H
theorem op_inDT {X : Cx} (hu : X.A.units + 65 < cLine) : OpR X (compareOp .In) (rInDT X.K) := by
  intro pins s σ H x y v u Q I rx ry h
  obtain ⟨d, ds, hd, he, sd, se, q⟩ := h
  obtain ⟨as, r1⟩ := Dp.reads I d x v hd rx
  obtain ⟨bs, r2⟩ := Dp.reads I (.tuple ds) y u he ry
  exact SeqAt.in_tuple_reads r2 r1 (SeqAt.canLay_of_shaped se) (SeqAt.canLay_of_shaped sd) (room_in_shaped sd hu) ⟨.bl _, H, I, rfl, q⟩
theorem op_notInDT {X : Cx} (hu : X.A.units + 65 < cLine) : OpR X (compareOp .NotIn) (rNotInDT X.K) := by
  intro pins s σ H x y v u Q I rx ry h
  obtain ⟨d, ds, hd, he, sd, se, q⟩ := h
  obtain ⟨as, r1⟩ := Dp.reads I d x v hd rx
  obtain ⟨bs, r2⟩ := Dp.reads I (.tuple ds) y u he ry
  exact SeqAt.notIn_tuple_reads r2 r1 (SeqAt.canLay_of_shaped se) (SeqAt.canLay_of_shaped sd) (room_in_shaped sd hu) ⟨.bl _, H, I, rfl, q⟩
def rIn2 (K : Fg) : R2 := fun x y H Q => rIn K false x y H Q ∨ rInD K x y H Q ∨ rInDT K x y H Q
def rNotIn2 (K : Fg) : R2 := fun x y H Q => rIn K true x y H Q ∨ rNotInD K x y H Q ∨ rNotInDT K x y H Q
section
variable {K : Fg}
theorem S_inB {F : Fm} {G H : Hp} {σ : L2.St} {ρ : En} {x y : V} {d e : D} {b : Bool} (R : Rl K F G H σ ρ) (hx : DRep K G H x d) (hy : DRep K G H y e) (ez : opInB d e = some b) :
    (∃ p xs, y = .ref p ∧ (SqL K H p xs ∨ SqT K H p xs) ∧ flatV x = true ∧ xs.all flatV = true ∧ inV x xs = b) ∨ (∃ p ps, Dp K H x p ∧ Dp K H y (.list ps) ∧ SeqAt.shaped p = true ∧ SeqAt.shaped (.list ps) = true ∧ (ps.any fun z => PyData.eqv z p) = b) ∨ ∃ p ps, Dp K H x p ∧ Dp K H y (.tuple ps) ∧ SeqAt.shaped p = true ∧ SeqAt.shaped (.tuple ps) = true ∧ (ps.any fun z => PyData.eqv z p) = b := by
  have hx' := hx.rep R.gh
  simp only [opInB] at ez
  split at ez
  · rename_i es he
    split at ez
    · rename_i hc
      cases ez
      left
      cases e <;> simp only [D.items] at he <;> cases he
      · obtain ⟨a, vs, rfl, g, h, r⟩ := hy.tup R.gh
        exact ⟨a, vs, rfl, .inr h, flat_rep hx' hc.1, flat_all r hc.2, flat_in hx' hc.1 (r.mono R.gh) hc.2⟩
      · obtain ⟨a, vs, rfl, h, r⟩ := hy.lst R.gh
        exact ⟨a, vs, rfl, .inl (.inl (.inl h)), flat_rep hx' hc.1, flat_all r hc.2, flat_in hx' hc.1 (r.mono R.gh) hc.2⟩
      · obtain ⟨a, vs, rfl, h, r⟩ := hy.scr R.gh
        exact ⟨a, vs, rfl, .inl h, flat_rep hx' hc.1, flat_all r hc.2, flat_in hx' hc.1 (r.mono R.gh) hc.2⟩
    · right
      split at ez
      · rename_i ds' p ps e1 e2
        split at ez
        · rename_i hc
          injection ez with ez
          subst ez
          obtain rfl : ds' = es := Option.some.inj he
          have e3 : (D.lst ds').py = some (.list ps) := by
            show (D.pyA ds').map PyData.list = _
            rw [e2]
            rfl
          exact .inl ⟨p, ps, hx'.dp e1, (hy.rep R.gh).dp e3, hc.1, hc.2, rfl⟩
        · cases ez
      · rename_i ds' p ps e1 e2
        split at ez
        · rename_i hc
          injection ez with ez
          subst ez
          obtain rfl : ds' = es := Option.some.inj he
          have e3 : (D.tup ds').py = some (.tuple ps) := by
            show (D.pyA ds').map PyData.tuple = _
            rw [e2]
            rfl
          exact .inr ⟨p, ps, hx'.dp e1, (hy.rep R.gh).dp e3, hc.1, hc.2, rfl⟩
        · cases ez
      · cases ez
  · cases ez
theorem S_in : OpS K (rIn2 K) opIn := by
  intro F G H σ ρ x y d e z Q R hx hy ez q
  simp only [opIn, Option.map_eq_some_iff] at ez
  obtain ⟨b, eb, rfl⟩ := ez
  rcases S_inB R hx hy eb with ⟨p, xs, e1, e2, e3, e4, rfl⟩ | ⟨p, ps, e1, e2, e3, e4, rfl⟩ | ⟨p, ps, e1, e2, e3, e4, rfl⟩
  · exact .inl ⟨p, xs, e1, e2, e3, e4, q _ G H R (Same.refl G) (.bl _)⟩
  · exact .inr (.inl ⟨p, ps, e1, e2, e3, e4, q _ G H R (Same.refl G) (.bl _)⟩)
  · exact .inr (.inr ⟨p, ps, e1, e2, e3, e4, q _ G H R (Same.refl G) (.bl _)⟩)
theorem S_notIn : OpS K (rNotIn2 K) opNotIn := by
  intro F G H σ ρ x y d e z Q R hx hy ez q
  simp only [opNotIn, Option.map_eq_some_iff] at ez
  obtain ⟨b, eb, rfl⟩ := ez
  rcases S_inB R hx hy eb with ⟨p, xs, e1, e2, e3, e4, rfl⟩ | ⟨p, ps, e1, e2, e3, e4, rfl⟩ | ⟨p, ps, e1, e2, e3, e4, rfl⟩
  · exact .inl ⟨p, xs, e1, e2, e3, e4, q _ G H R (Same.refl G) (.bl _)⟩
  · exact .inr (.inl ⟨p, ps, e1, e2, e3, e4, q _ G H R (Same.refl G) (.bl _)⟩)
  · exact .inr (.inr ⟨p, ps, e1, e2, e3, e4, q _ G H R (Same.refl G) (.bl _)⟩)
@[simp] def opIsB : D2
  | .bl a, .bl b => some (.val (.bl (decide (a = b))))
  | _, _ => none
@[simp] def opNotB : D2
  | .bl a, .bl b => some (.val (.bl (!decide (a = b))))
  | _, _ => none
end
theorem op_in2 {X : Cx} {K : Fg} (hu : X.A.units + 65 < cLine) (h : X.K = K := by rfl) : OpR X (compareOp .In) (rIn2 K) := h ▸ OpRor op_in_seq (OpRor (op_inD hu) (op_inDT hu))
theorem op_notIn2 {X : Cx} {K : Fg} (hu : X.A.units + 65 < cLine) (h : X.K = K := by rfl) : OpR X (compareOp .NotIn) (rNotIn2 K) := h ▸ OpRor op_notIn_seq (OpRor (op_notInD hu) (op_notInDT hu))
@[simp] def D.isNon : D → Bool
  | .non => true
  | _ => false
def dIsN (A : En → Res X) : En → Res X := fun ρ => (A ρ).bind fun a ρ1 => match deref ρ1 a with
  | some d => .ok (.val (.bl d.isNon)) ρ1
  | none => .stuck
def dNotN (A : En → Res X) : En → Res X := fun ρ => (A ρ).bind fun a ρ1 => match deref ρ1 a with
  | some d => .ok (.val (.bl !d.isNon)) ρ1
  | none => .stuck
section
variable {K : Fg} {E : XK} {ta tb tc : TE} {A B C : En → Res X}
theorem isNon_of {G H : Hp} {v : V} {d : D} (h : DRep K G H v d) : decide (v = .non) = d.isNon := by
  rcases h with h | ⟨a, o, rfl, rfl, _⟩
  · cases h <;> rfl
  · cases o <;> rfl
theorem L_isN (ha : LE K E ta A) : LE K E (tIsN ta) (dIsN A) := by
  refine LG.bind (k := fun (x : V) σ H (Q : VK) => Q (.bl (decide (x = V.non))) H) ha fun F G H σ ρ x a Q R hx w => ?_
  cases e : deref ρ a with
  | none => rw [e] at w; exact w.elim
  | some d =>
    rw [e] at w
    rw [isNon_of (R.deref hx e)]
    exact w _ G H R (Same.refl G) (.bl _)
theorem L_notN (ha : LE K E ta A) : LE K E (tNotN ta) (dNotN A) := by
  refine LG.bind (k := fun (x : V) σ H (Q : VK) => Q (.bl (!decide (x = V.non))) H) ha fun F G H σ ρ x a Q R hx w => ?_
  cases e : deref ρ a with
  | none => rw [e] at w; exact w.elim
  | some d =>
    rw [e] at w
    rw [isNon_of (R.deref hx e)]
    exact w _ G H R (Same.refl G) (.bl _)
@[simp] def asB (ρ : En) (a : X) : Option Bool := match deref ρ a with
  | some (.bl b) => some b
  | _ => none
theorem Rl.asB {F : Fm} {G H : Hp} {σ : L2.St} {ρ : En} {v : V} {a : X} {b : Bool} (R : Rl K F G H σ ρ) (hx : RepX K F G H σ ρ v a) (e : asB ρ a = some b) : v = .bl b := by
  unfold DL.asB at e
  cases e2 : DL.deref ρ a with
  | none => rw [e2] at e; cases e
  | some d =>
    rw [e2] at e
    cases d <;> cases e
    exact (R.deref hx e2).bl
def dTest (A : En → Res X) : En → Res Bool := fun ρ => (A ρ).bind fun a ρ1 => lift (asB ρ1 a) ρ1
theorem L_test (ha : LE K E ta A) : LT K E (fun σ H Q => ta σ H fun x H' => ∃ k, x = .bl k ∧ Q k H') (dTest A) := by
  refine LG.bind (k := fun x σ H Q => ∃ k, x = .bl k ∧ Q k H) ha fun F G H σ ρ x a Q R hx w => ?_
  obtain ⟨b, e, q⟩ := w.lift
  exact ⟨b, R.asB hx e, q _ G H R (Same.refl G) rfl⟩
def dNot (A : En → Res X) : En → Res X := fun ρ => (A ρ).bind fun a ρ1 => lift ((asB ρ1 a).map fun b => X.val (.bl !b)) ρ1
theorem L_not (ha : LE K E ta A) : LE K E (tNotV ta) (dNot A) := by
  refine LG.bind (k := fun (x : V) σ H (Q : VK) => ∃ c, x = .bl c ∧ Q (.bl (!c)) H) ha fun F G H σ ρ x a Q R hx w => ?_
  obtain ⟨b, e, q⟩ := w.lift
  rw [Option.map_eq_some_iff] at e
  obtain ⟨c, e, rfl⟩ := e
  exact ⟨c, R.asB hx e, q _ G H R (Same.refl G) (.bl _)⟩
def dAnd (A B : En → Res X) : En → Res X := fun ρ => (A ρ).bind fun a ρ1 => match asB ρ1 a with
  | some true => B ρ1
  | some false => .ok (.val (.bl false)) ρ1
  | none => .stuck
def dOr (A B : En → Res X) : En → Res X := fun ρ => (A ρ).bind fun a ρ1 => match asB ρ1 a with
  | some false => B ρ1
  | some true => .ok (.val (.bl true)) ρ1
  | none => .stuck
theorem L_and (ha : LE K E ta A) (hb : LE K E tb B) : LE K E (tAndV ta tb) (dAnd A B) := by
  refine LG.bind (k := fun x σ H Q => ∃ c, x = .bl c ∧ if c = true then tb σ H Q else Q (.bl false) H) ha fun F G H σ ρ x a Q R hx w => ?_
  cases e : asB ρ a with
  | none => rw [e] at w; exact w.elim
  | some c =>
    rw [e] at w
    refine ⟨c, R.asB hx e, ?_⟩
    cases c with
    | true => exact iteT (hb F G H σ ρ Q R w)
    | false => exact iteF (w _ G H R (Same.refl G) (.bl _))
theorem L_or (ha : LE K E ta A) (hb : LE K E tb B) : LE K E (tOrV ta tb) (dOr A B) := by
  refine LG.bind (k := fun x σ H Q => ∃ c, x = .bl c ∧ if c = true then Q (.bl true) H else tb σ H Q) ha fun F G H σ ρ x a Q R hx w => ?_
  cases e : asB ρ a with
  | none => rw [e] at w; exact w.elim
  | some c =>
    rw [e] at w
    refine ⟨c, R.asB hx e, ?_⟩
    cases c with
    | true => exact iteT (w _ G H R (Same.refl G) (.bl _))
    | false => exact iteF (hb F G H σ ρ Q R w)
variable {t u : TT} {T U : En → Res Bool}
def tnd (T U : En → Res Bool) : En → Res Bool := fun ρ => (T ρ).bind fun a ρ1 => match a with
  | true => U ρ1
  | false => .ok false ρ1
def tor (T U : En → Res Bool) : En → Res Bool := fun ρ => (T ρ).bind fun a ρ1 => match a with
  | true => .ok true ρ1
  | false => U ρ1
def tnot (T : En → Res Bool) : En → Res Bool := fun ρ => (T ρ).bind fun a ρ1 => .ok (!a) ρ1
theorem L_tand (ha : LT K E t T) (hb : LT K E u U) : LT K E (tAnd t u) (tnd T U) := by
  refine LG.bind (k := fun c σ H Q => if c = true then u σ H Q else Q false H) ha fun F G H σ ρ x a Q R hx w => ?_
  subst hx
  cases x with
  | true => exact iteT (hb F G H σ ρ Q R w)
  | false => exact iteF (w _ G H R (Same.refl G) rfl)
theorem L_tor (ha : LT K E t T) (hb : LT K E u U) : LT K E (tOr t u) (tor T U) := by
  refine LG.bind (k := fun c σ H Q => if c = true then Q true H else u σ H Q) ha fun F G H σ ρ x a Q R hx w => ?_
  subst hx
  cases x with
  | true => exact iteT (w _ G H R (Same.refl G) rfl)
  | false => exact iteF (hb F G H σ ρ Q R w)
theorem L_tnot (ha : LT K E t T) : LT K E (tNot t) (tnot T) := by
  refine LG.bind (k := fun c σ H Q => Q (!c) H) ha fun F G H σ ρ x a Q R hx w => ?_
  subst hx
  exact w _ G H R (Same.refl G) rfl
def dIfE (T : En → Res Bool) (A B : En → Res X) : En → Res X := fun ρ => (T ρ).bind fun a ρ1 => match a with
  | true => A ρ1
  | false => B ρ1
theorem L_ifE (ht : LT K E t T) (ha : LE K E ta A) (hb : LE K E tb B) : LE K E (tIf t ta tb) (dIfE T A B) := by
  refine LG.bind (k := fun c σ H Q => if c = true then ta σ H Q else tb σ H Q) ht fun F G H σ ρ x a Q R hx w => ?_
  subst hx
  cases x with
  | true => exact iteT (ha F G H σ ρ Q R w)
  | false => exact iteF (hb F G H σ ρ Q R w)
/-- a op b op' c -/
def dChain (op op' : D2) (A B C : En → Res X) : En → Res X := fun ρ => (A ρ).bind fun a ρ1 => (B ρ1).bind fun b ρ2 => (ap2 op a.settle b.settle ρ2).bind fun z ρ3 => match asB ρ3 z with
  | some true => (C ρ3).bind fun c ρ4 => ap2 op' b.settle c ρ4
  | some false => .ok (.val (.bl false)) ρ3
  | none => .stuck
theorem L_chain {r r' : R2} {op op' : D2} (hr : OpS K r op) (hr' : OpS K r' op') (ha : LE K E ta A) (hb : LE K E tb B) (hc : LE K E tc C) : LE K E (tChain r r' ta tb tc) (dChain op op' A B C) := by
  refine LG.bind (k := fun x σ H Q => tb σ H fun y H2 => r x y H2 fun z H3 => ∃ k, z = .bl k ∧ (if k = true then tc σ H3 fun w' H4 => r' y w' H4 Q else Q (.bl false) H3)) ha fun F G H σ ρ x a Q R hx w => ?_
  obtain ⟨G1, R1, s1, hx1⟩ := R.settle hx
  refine hb F G1 H σ ρ _ R1 ((w.mono s1).bind fun y b G2 H2 ρ2 R2 s2 hy w2 => ?_)
  obtain ⟨G3, R3, s3, hy1⟩ := R2.settle hy
  refine ap2_run hr R3 (hx1.keep settle_no (s2.trans s3)) hy1 ((w2.mono s3).bind fun z c G4 H4 ρ4 R4 s4 hz w3 => ?_)
  cases e : asB ρ4 c with
  | none => rw [e] at w3; exact w3.elim
  | some k =>
    rw [e] at w3
    refine ⟨k, R4.asB hz e, ?_⟩
    cases k with
    | false => exact iteF (w3 _ G4 H4 R4 (Same.refl G4) (.bl _))
    | true =>
      refine iteT (hc F G4 H4 σ ρ4 _ R4 (w3.bind fun y' c' G5 H5 ρ5 R5 s5 hc' w4 => ?_))
      exact ap2_run hr' R5 (hy1.keep settle_no (s4.trans s5)) hc' w4
end
end DL
set_option Elab.async false
set_option linter.all false
set_option maxRecDepth 100000
set_option maxHeartbeats 2000000
namespace DL
open PySem PySem.Spec PyProof.Rows L2 DD
section
variable {K : Fg} {E : XK} {ta tb tc : TE} {A B C : En → Res X} {t : TA} {T : En → Res (List X)}
def aNil : En → Res (List X) := fun ρ => .ok [] ρ
def aCons (A : En → Res X) (T : En → Res (List X)) : En → Res (List X) := fun ρ => (A ρ).bind fun a ρ1 => (T ρ1).bind fun as ρ2 => .ok (a.settle :: as) ρ2
theorem A_nil : LA K E tNil aNil := fun F G H σ ρ Q R w => w [] G H R (Same.refl G) .nil
theorem RepXs.keep {F : Fm} {G G' H H' : Hp} {σ : L2.St} {ρ ρ' : En} : ∀ {vs : List V} {xs : List X}, RepXs K F G H σ ρ vs xs → Same G G' → RepXs K F G' H' σ ρ' vs xs
  | _, _, .nil, _ => .nil
  | _, _, .cons h n r, e => .cons (h.keep n e) n (r.keep e)
theorem A_cons (ha : LE K E ta A) (ht : LA K E t T) : LA K E (tCons ta t) (aCons A T) := by
  refine LG.bind (k := fun x σ H (Q : List V → Hp → Prop) => t σ H fun xs H2 => Q (x :: xs) H2) ha fun F G H σ ρ x a Q R hx w => ?_
  obtain ⟨G1, R1, s1, hx1⟩ := R.settle hx
  refine ht F G1 H σ ρ _ R1 ((w.mono s1).bind fun ys b G2 H2 ρ2 R2 s2 hy w2 => ?_)
  exact w2 _ G2 H2 R2 (Same.refl G2) (.cons (hx1.keep settle_no s2) settle_no hy)
@[simp] def derefs (ρ : En) : List X → Option (List D)
  | [] => some []
  | x :: xs => match deref ρ x, derefs ρ xs with
    | some d, some ds => some (d :: ds)
    | _, _ => none
theorem Rl.derefs {F : Fm} {G H : Hp} {σ : L2.St} {ρ : En} (R : Rl K F G H σ ρ) : ∀ {vs : List V} {xs : List X} {ds : List D}, RepXs K F G H σ ρ vs xs → derefs ρ xs = some ds → DRepA K G H vs ds
  | _, _, _, .nil, e => by cases e; exact .nil
  | _, x :: xs, _, .cons h n r, e => by
    simp only [DL.derefs] at e
    cases e1 : DL.deref ρ x with
    | none => rw [e1] at e; cases e
    | some d =>
      cases e2 : DL.derefs ρ xs with
      | none => rw [e1, e2] at e; cases e
      | some ds => rw [e1, e2] at e; cases e; exact .cons (R.deref h e1) (R.derefs r e2)
/-- as frozen data -/
@[simp] def toVals : En → List X → Option (List D × En)
  | ρ, [] => some ([], ρ)
  | ρ, x :: xs => match toVal ρ x with
    | some (d, ρ1) => match toVals ρ1 xs with
      | some (ds, ρ2) => some (d :: ds, ρ2)
      | none => none
    | none => none
theorem Rl.toVals {F : Fm} {H : Hp} {σ : L2.St} : ∀ {G : Hp} {ρ ρ' : En} {vs : List V} {xs : List X} {ds : List D}, Rl K F G H σ ρ → RepXs K F G H σ ρ vs xs → toVals ρ xs = some (ds, ρ') → ∃ G', Rl K F G' H σ ρ' ∧ Same G G' ∧ RepA K G' vs ds
  | G, ρ, _, _, _, _, R, .nil, e => by cases e; exact ⟨G, R, Same.refl G, .nil⟩
  | G, ρ, _, _, x :: xs, _, R, .cons h n r, e => by
    simp only [DL.toVals] at e
    cases e1 : DL.toVal ρ x with
    | none => rw [e1] at e; cases e
    | some p =>
      obtain ⟨d, ρ1⟩ := p
      rw [e1] at e
      dsimp only at e
      cases e2 : DL.toVals ρ1 xs with
      | none => rw [e2] at e; cases e
      | some p2 =>
        obtain ⟨ds, ρ2⟩ := p2
        rw [e2] at e
        cases e
        obtain ⟨G1, R1, s1, h1⟩ := R.toVal h e1
        obtain ⟨G2, R2, s2, h2⟩ := R1.toVals (r.keep s1) e2
        exact ⟨G2, R2, s1.trans s2, .cons (h1.mono s2) h2⟩
def dTup (T : En → Res (List X)) : En → Res X := fun ρ => (T ρ).bind fun xs ρ1 => match toVals ρ1 xs with
  | some (ds, ρ2) => if ds.length ≤ sizeLine then .ok (.val (.tup ds)) ρ2 else .stuck
  | none => .stuck
def dLst (T : En → Res (List X)) : En → Res X := fun ρ => (T ρ).bind fun xs ρ1 => match toVals ρ1 xs with
  | some (ds, ρ2) => if ds.length ≤ sizeLine then .ok (.new (.lst ds)) ρ2 else .stuck
  | none => .stuck
theorem L_tup (ht : LA K E t T) : LE K E (tTup t) (dTup T) := by
  refine LG.bind (k := fun xs σ H (Q : VK) => xs.length ≤ sizeLine ∧ ∀ p, H p = none → Q (.ref p) (upd H p (.tup xs))) ht fun F G H σ ρ vs xs Q R hx w => ?_
  cases e : toVals ρ xs with
  | none => rw [e] at w; exact w.elim
  | some p =>
    obtain ⟨ds, ρ2⟩ := p
    rw [e] at w
    dsimp only at w
    obtain ⟨G1, R1, s1, r1⟩ := R.toVals hx e
    split at w
    · rename_i hz
      refine ⟨by rw [r1.len]; exact hz, fun p np => ?_⟩
      obtain ⟨R2, s2, r2⟩ := newT R1 np r1
      exact w _ _ _ R2 (s1.trans s2) r2
    · exact w.elim
theorem L_lst (ht : LA K E t T) : LE K E (tLst t) (dLst T) := by
  refine LG.bind (k := fun xs σ H (Q : VK) => xs.length ≤ sizeLine ∧ ∀ p, H p = none → Q (.ref p) (upd H p (.lst xs))) ht fun F G H σ ρ vs xs Q R hx w => ?_
  cases e : toVals ρ xs with
  | none => rw [e] at w; exact w.elim
  | some p =>
    obtain ⟨ds, ρ2⟩ := p
    rw [e] at w
    dsimp only at w
    obtain ⟨G1, R1, s1, r1⟩ := R.toVals hx e
    split at w
    · rename_i hz
      refine ⟨by rw [r1.len]; exact hz, fun p np => ?_⟩
      obtain ⟨R2, r2⟩ := newL R1 np r1
      exact w _ _ _ R2 s1 r2
    · exact w.elim
@[simp] def opIx : D2
  | .tup ds, .int i | .lst ds, .int i | .scr ds, .int i => (atI ds i).map X.val
  | .str z, .int i => if z.length ≤ sizeLine then (atI z.cps.toList i).map fun c => X.val (.str ⟨#[c]⟩) else none
  | _, _ => none
theorem atI_rep {G : Hp} {vs : List V} {ds : List D} {i : Int} {d : D} (r : RepA K G vs ds) (e : atI ds i = some d) : ∃ v, atI vs i = some v ∧ Rep K G v d := by
  unfold atI at e ⊢
  rw [r.len]
  cases e1 : ixN ds.length i with
  | none => rw [e1] at e; cases e
  | some j =>
    rw [e1] at e
    exact r.get e
theorem S_ix : OpS K (rIx K) opIx := by
  intro F G H σ ρ x y d e z Q R hx hy ez q
  cases d <;> cases e <;> first | (cases ez; done) | skip
  · simp only [opIx] at ez
    split at ez
    · rename_i hc
      rw [Option.map_eq_some_iff] at ez
      obtain ⟨c, e1, rfl⟩ := ez
      exact .inr (.inr ⟨_, _, c, hx.str, hy.int, hc, e1, q _ G H R (Same.refl G) (.str _)⟩)
    · cases ez
  · simp only [opIx, Option.map_eq_some_iff] at ez
    obtain ⟨d, e1, rfl⟩ := ez
    obtain ⟨a, vs, rfl, g, h, r⟩ := hx.tup R.gh
    obtain ⟨v, e2, h2⟩ := atI_rep r e1
    exact .inr (.inl ⟨a, vs, _, v, rfl, hy.int, h, e2, q _ G H R (Same.refl G) h2⟩)
  · simp only [opIx, Option.map_eq_some_iff] at ez
    obtain ⟨d, e1, rfl⟩ := ez
    obtain ⟨a, vs, rfl, h, r⟩ := hx.lst R.gh
    obtain ⟨v, e2, h2⟩ := atI_rep r e1
    exact .inl ⟨a, vs, _, v, rfl, hy.int, .inl (.inl h), e2, q _ G H R (Same.refl G) h2⟩
  · simp only [opIx, Option.map_eq_some_iff] at ez
    obtain ⟨d, e1, rfl⟩ := ez
    obtain ⟨a, vs, rfl, h, r⟩ := hx.scr R.gh
    obtain ⟨v, e2, h2⟩ := atI_rep r e1
    exact .inl ⟨a, vs, _, v, rfl, hy.int, h, e2, q _ G H R (Same.refl G) h2⟩
def cutD (ds : List D) (lo hi : Option Int) : List D := (ds.drop (HT.sIx ds.length 0 lo)).take (HT.sIx ds.length ds.length hi - HT.sIx ds.length 0 lo)
theorem cut_rep {G : Hp} {vs : List V} {ds : List D} {lo hi : Option Int} (r : RepA K G vs ds) : RepA K G (cutV vs lo hi) (cutD ds lo hi) := by
  unfold cutV cutD
  rw [r.len]
  exact (r.drop _).take _
theorem cut_all {ds : List D} {lo hi : Option Int} (h : HT.sIx ds.length 0 lo = 0 ∧ HT.sIx ds.length ds.length hi = ds.length) : cutD ds lo hi = ds := by
  unfold cutD
  rw [h.1, h.2]
  simp
abbrev TOp := L2.St → Hp → (Option Int → Hp → Prop) → Prop
def oNone : En → Res (Option Int) := fun ρ => .ok none ρ
@[simp] def asI (ρ : En) (a : X) : Option Int := match deref ρ a with
  | some (.int i) => some i
  | _ => none
def oSome (A : En → Res X) : En → Res (Option Int) := fun ρ => (A ρ).bind fun a ρ1 => lift ((asI ρ1 a).map some) ρ1
theorem Rl.asI {F : Fm} {G H : Hp} {σ : L2.St} {ρ : En} {v : V} {a : X} {b : Int} (R : Rl K F G H σ ρ) (hx : RepX K F G H σ ρ v a) (e : asI ρ a = some b) : v = .int b := by
  unfold DL.asI at e
  cases e2 : DL.deref ρ a with
  | none => rw [e2] at e; cases e
  | some d =>
    rw [e2] at e
    cases d <;> cases e
    exact (R.deref hx e2).int
abbrev LO (K : Fg) (E : XK) (t : TOp) (T : En → Res (Option Int)) : Prop := LG K E (fun _ _ _ _ _ b a => b = a) t T
theorem O_none : LO K E tNoPart oNone := fun F G H σ ρ Q R w => w _ G H R (Same.refl G) rfl
theorem O_some (ha : LE K E ta A) : LO K E (tPart ta) (oSome A) := by
  refine LG.bind (k := fun x σ H (Q : Option Int → Hp → Prop) => ∃ i, x = .int i ∧ Q (some i) H) ha fun F G H σ ρ x a Q R hx w => ?_
  obtain ⟨b, e, q⟩ := w.lift
  rw [Option.map_eq_some_iff] at e
  obtain ⟨i, e, rfl⟩ := e
  exact ⟨i, R.asI hx e, q _ G H R (Same.refl G) rfl⟩
@[simp] def opSl (d : D) (lo hi : Option Int) : Option X := match d with
  | .tup ds => some (.val (.tup (cutD ds lo hi)))
  | .lst ds => some (.new (.lst (cutD ds lo hi)))
  | .str z => if z.length ≤ sizeLine then some (.val (.str (cutS z lo hi))) else none
  | _ => none
def rSl3 (K : Fg) : V → Option Int → Option Int → Hp → VK → Prop := fun x lo hi H Q => rSlA K x lo hi H Q ∨ rSlL K x lo hi H Q ∨ rSlS x lo hi H Q
def dSl (A : En → Res X) (L U : En → Res (Option Int)) : En → Res X := fun ρ => (A ρ).bind fun a ρ1 => (L ρ1).bind fun lo ρ2 => (U ρ2).bind fun hi ρ3 => match deref ρ3 a.settle with
  | some d => lift (opSl d lo hi) ρ3
  | none => .stuck
theorem L_sl {tl th : TOp} {L U : En → Res (Option Int)} (ha : LE K E ta A) (hl : LO K E tl L) (hu : LO K E th U) : LE K E (tSl (rSl3 K) ta tl th) (dSl A L U) := by
  refine LG.bind (k := fun x σ H (Q : VK) => tl σ H fun l H2 => th σ H2 fun u H3 => rSl3 K x l u H3 Q) ha fun F G H σ ρ x a Q R hx w => ?_
  obtain ⟨G1, R1, s1, hx1⟩ := R.settle hx
  refine hl F G1 H σ ρ _ R1 ((w.mono s1).bind fun lo lo' G2 H2 ρ2 R2 s2 el w2 => ?_)
  subst el
  refine hu F G2 H2 σ ρ2 _ R2 (w2.bind fun hi hi' G3 H3 ρ3 R3 s3 eu w3 => ?_)
  subst eu
  have hx3 := hx1.keep (H' := H3) (ρ' := ρ3) settle_no (s2.trans s3)
  cases e : deref ρ3 a.settle with
  | none => rw [e] at w3; exact w3.elim
  | some d =>
    rw [e] at w3
    obtain ⟨z, ez, q⟩ := w3.lift
    have hd := R3.deref hx3 e
    cases d <;> first | (cases ez; done) | skip
    · simp only [opSl] at ez
      split at ez
      · rename_i hc
        cases ez
        exact .inr (.inr ⟨_, hd.str, hc, q _ G3 H3 R3 (Same.refl G3) (.str _)⟩)
      · cases ez
    · cases ez
      obtain ⟨b, vs, rfl, g, h, r⟩ := hd.tup R3.gh
      refine .inl ⟨b, vs, rfl, h, fun hw => ?_, fun _ p np => ?_⟩
      · rw [r.len] at hw
        rw [cut_all hw] at q
        exact q _ G3 H3 R3 (Same.refl G3) (.tup g r)
      · obtain ⟨R4, s4, r4⟩ := newT R3 np (cut_rep (lo := lo) (hi := hi) r)
        exact q _ _ _ R4 s4 r4
    · cases ez
      obtain ⟨b, vs, rfl, h, r⟩ := hd.lst R3.gh
      refine .inr (.inl ⟨b, vs, rfl, .inl (.inl h), fun p np => ?_⟩)
      obtain ⟨R4, r4⟩ := newL R3 np (cut_rep (lo := lo) (hi := hi) r)
      exact q _ _ _ R4 (Same.refl G3) r4
end
theorem SlRor {X : Cx} {r r' : V → Option Int → Option Int → Hp → VK → Prop} (h : SlR X r) (h' : SlR X r') : SlR X (fun x lo hi H Q => r x lo hi H Q ∨ r' x lo hi H Q) := by
  intro pins s σ H x v vl vu lo hi sl Q I rx hs pl pu q
  rcases q with q | q
  · exact h pins s σ H x v vl vu lo hi sl Q I rx hs pl pu q
  · exact h' pins s σ H x v vl vu lo hi sl Q I rx hs pl pu q
theorem sl_3 {X : Cx} {K : Fg} (h : X.K = K := by rfl) : SlR X (rSl3 K) := h ▸ SlRor sl_tupA (SlRor sl_list sl_str)
theorem ix_3 {X : Cx} {K : Fg} (h : X.K = K := by rfl) : IxR X (rIx K) := h ▸ ix_seq
theorem CallRor {X : Cx} {f : Value} {r r' : List V → Hp → VK → Prop} (h : CallR X f r) (h' : CallR X f r') : CallR X f (fun xs H Q => r xs H Q ∨ r' xs H Q) := by
  intro pins s σ H xs us Q I rx q
  rcases q with q | q
  · exact h pins s σ H xs us Q I rx q
  · exact h' pins s σ H xs us Q I rx q
def CallS (K : Fg) (r : List V → Hp → VK → Prop) (f : List D → Option X) : Prop := ∀ (F : Fm) (G H : Hp) (σ : L2.St) (ρ : En) (vs : List V) (ds : List D) (z : X) (Q : VK), Rl K F G H σ ρ → DRepA K G H vs ds → f ds = some z →
  (∀ v G' H', Rl K F G' H' σ ρ → Same G G' → RepX K F G' H' σ ρ v z → Q v H') → r vs H Q
@[simp] def apN (f : List D → Option X) (xs : List X) (ρ : En) : Res X := match derefs ρ xs with
  | some ds => lift (f ds) ρ
  | none => .stuck
def dCB (f : List D → Option X) (T : En → Res (List X)) : En → Res X := fun ρ => (T ρ).bind (apN f)
section
variable {K : Fg} {E : XK} {ta tb tc : TE} {A B C : En → Res X} {t : TA} {T : En → Res (List X)} {r : List V → Hp → VK → Prop} {f : List D → Option X}
theorem L_cb (hr : CallS K r f) (ht : LA K E t T) : LE K E (tCB r t) (dCB f T) := by
  refine LG.bind (k := fun vs σ H (Q : VK) => r vs H Q) ht fun F G H σ ρ vs xs Q R hx w => ?_
  unfold apN at w
  cases e : derefs ρ xs with
  | none => rw [e] at w; exact w.elim
  | some ds =>
    rw [e] at w
    obtain ⟨z, ez, q⟩ := w.lift
    exact hr F G H σ ρ vs ds z Q R (R.derefs hx e) ez q
theorem DRepA.one {G H : Hp} {vs : List V} {d : D} (h : DRepA K G H vs [d]) : ∃ v, vs = [v] ∧ DRep K G H v d := by
  cases h with
  | cons h r => cases r; exact ⟨_, rfl, h⟩
theorem DRepA.two {G H : Hp} {vs : List V} {d e : D} (h : DRepA K G H vs [d, e]) : ∃ v w, vs = [v, w] ∧ DRep K G H v d ∧ DRep K G H w e := by
  cases h with
  | cons h r =>
    obtain ⟨w, rfl, h2⟩ := r.one
    exact ⟨_, w, rfl, h, h2⟩
@[simp] def fLen : List D → Option X
  | [.tup ds] | [.lst ds] | [.scr ds] => some (.val (.int ds.length))
  | [.str z] => if z.length ≤ sizeLine then some (.val (.int z.length)) else none
  | _ => none
def rLen2 (K : Fg) : List V → Hp → VK → Prop := fun xs H Q => (∃ p ys, xs = [.ref p] ∧ (SqL K H p ys ∨ SqT K H p ys) ∧ Q (.int ys.length) H) ∨ ∃ z, xs = [.str z] ∧ z.length ≤ sizeLine ∧ Q (.int z.length) H
theorem C_len : CallS K (rLen2 K) fLen := by
  intro F G H σ ρ vs ds z Q R hx ez q
  unfold fLen at ez
  split at ez
  · cases ez
    obtain ⟨v, rfl, h⟩ := hx.one
    obtain ⟨a, ws, rfl, g, h, r⟩ := h.tup R.gh
    exact .inl ⟨a, ws, rfl, .inr h, by rw [r.len]; exact q _ G H R (Same.refl G) (.int _)⟩
  · cases ez
    obtain ⟨v, rfl, h⟩ := hx.one
    obtain ⟨a, ws, rfl, h, r⟩ := h.lst R.gh
    exact .inl ⟨a, ws, rfl, .inl (.inl (.inl h)), by rw [r.len]; exact q _ G H R (Same.refl G) (.int _)⟩
  · cases ez
    obtain ⟨v, rfl, h⟩ := hx.one
    obtain ⟨a, ws, rfl, h, r⟩ := h.scr R.gh
    exact .inl ⟨a, ws, rfl, .inl h, by rw [r.len]; exact q _ G H R (Same.refl G) (.int _)⟩
  · split at ez
    · rename_i hc
      cases ez
      obtain ⟨v, rfl, h⟩ := hx.one
      obtain rfl := h.str
      exact .inr ⟨_, rfl, hc, q _ G H R (Same.refl G) (.int _)⟩
    · cases ez
  · cases ez
@[simp] def fAbs : List D → Option X
  | [.int i] => some (.val (.int (if i < 0 then -i else i)))
  | _ => none
theorem C_abs : CallS K (fun xs H Q => ∃ i, xs = [.int i] ∧ Q (.int (if i < 0 then -i else i)) H) fAbs := by
  intro F G H σ ρ vs ds z Q R hx ez q
  unfold fAbs at ez
  split at ez
  · cases ez
    obtain ⟨v, rfl, h⟩ := hx.one
    obtain rfl := h.int
    exact ⟨_, rfl, q _ G H R (Same.refl G) (.int _)⟩
  · cases ez
@[simp] def fMax : List D → Option X
  | [.int i, .int j] => some (.val (.int (if j > i then j else i)))
  | _ => none
theorem C_max : CallS K (fun xs H Q => ∃ i j, xs = [.int i, .int j] ∧ Q (.int (if j > i then j else i)) H) fMax := by
  intro F G H σ ρ vs ds z Q R hx ez q
  unfold fMax at ez
  split at ez
  · cases ez
    obtain ⟨v, w, rfl, h, h2⟩ := hx.two
    obtain rfl := h.int
    obtain rfl := h2.int
    exact ⟨_, _, rfl, q _ G H R (Same.refl G) (.int _)⟩
  · cases ez
@[simp] def fMin : List D → Option X
  | [.int i, .int j] => some (.val (.int (if j < i then j else i)))
  | _ => none
theorem C_min : CallS K (fun xs H Q => ∃ i j, xs = [.int i, .int j] ∧ Q (.int (if j < i then j else i)) H) fMin := by
  intro F G H σ ρ vs ds z Q R hx ez q
  unfold fMin at ez
  split at ez
  · cases ez
    obtain ⟨v, w, rfl, h, h2⟩ := hx.two
    obtain rfl := h.int
    obtain rfl := h2.int
    exact ⟨_, _, rfl, q _ G H R (Same.refl G) (.int _)⟩
  · cases ez
def rInt2 : List V → Hp → VK → Prop := fun xs H Q => ((∃ i, xs = [.int i] ∧ Q (.int i) H) ∨ ∃ k, xs = [.bl k] ∧ Q (.int (if k then 1 else 0)) H) ∨ ∃ a n, xs = [.str a] ∧ PySem.intText? a = some n ∧ a.length ≤ 640 ∧ Q (.int n) H
@[simp] def fInt : List D → Option X
  | [.int i] => some (.val (.int i))
  | [.bl k] => some (.val (.int (if k then 1 else 0)))
  | [.str a] => if a.length ≤ 640 then (PySem.intText? a).map fun n => .val (.int n) else none
  | _ => none
theorem C_int : CallS K rInt2 fInt := by
  intro F G H σ ρ vs ds z Q R hx ez q
  unfold fInt at ez
  split at ez
  · cases ez
    obtain ⟨v, rfl, h⟩ := hx.one
    obtain rfl := h.int
    exact .inl (.inl ⟨_, rfl, q _ G H R (Same.refl G) (.int _)⟩)
  · cases ez
    obtain ⟨v, rfl, h⟩ := hx.one
    obtain rfl := h.bl
    exact .inl (.inr ⟨_, rfl, q _ G H R (Same.refl G) (.int _)⟩)
  · split at ez
    · rename_i hc
      rw [Option.map_eq_some_iff] at ez
      obtain ⟨n, en, rfl⟩ := ez
      obtain ⟨v, rfl, h⟩ := hx.one
      obtain rfl := h.str
      exact .inr ⟨_, n, rfl, en, hc, q _ G H R (Same.refl G) (.int _)⟩
    · cases ez
  · cases ez
@[simp] def fStr : List D → Option X
  | [.int i] => if i.natAbs.log2 < 1920 then some (.val (.str (toString i))) else none
  | _ => none
@[simp] def fList : List D → Option X
  | [.tup ds] | [.lst ds] | [.scr ds] => some (.new (.lst ds))
  | _ => none
@[simp] def fTuple : List D → Option X
  | [.tup ds] | [.lst ds] | [.scr ds] => some (.val (.tup ds))
  | _ => none
theorem C_tuple : CallS K (fun xs H Q => ∃ p ys, xs = [.ref p] ∧ ((SqL K H p ys ∧ ∀ l, H l = none → Q (.ref l) (upd H l (.tup ys))) ∨ (SqT K H p ys ∧ Q (.ref p) H))) fTuple := by
  intro F G H σ ρ vs ds z Q R hx ez q
  unfold fTuple at ez
  split at ez
  · cases ez
    obtain ⟨v, rfl, h⟩ := hx.one
    obtain ⟨a, ws, rfl, g, h, r⟩ := h.tup R.gh
    exact ⟨a, ws, rfl, .inr ⟨h, q _ G H R (Same.refl G) (.tup g r)⟩⟩
  · cases ez
    obtain ⟨v, rfl, h⟩ := hx.one
    obtain ⟨a, ws, rfl, h, r⟩ := h.lst R.gh
    refine ⟨a, ws, rfl, .inl ⟨.inl (.inl h), fun p np => ?_⟩⟩
    obtain ⟨R2, s2, r2⟩ := newT R np r
    exact q _ _ _ R2 s2 r2
  · cases ez
    obtain ⟨v, rfl, h⟩ := hx.one
    obtain ⟨a, ws, rfl, h, r⟩ := h.scr R.gh
    refine ⟨a, ws, rfl, .inl ⟨h, fun p np => ?_⟩⟩
    obtain ⟨R2, s2, r2⟩ := newT R np r
    exact q _ _ _ R2 s2 r2
  · cases ez
@[simp] def allB : List D → Option (List Bool)
  | [] => some []
  | .bl b :: ds => (allB ds).map (b :: ·)
  | _ => none
theorem allB_rep {G : Hp} : ∀ {vs : List V} {ds : List D} {bs : List Bool}, RepA K G vs ds → allB ds = some bs → vs = bs.map V.bl
  | _, _, _, .nil, e => by cases e; rfl
  | _, .bl b :: ds, _, .cons h r, e => by
    simp only [allB, Option.map_eq_some_iff] at e
    obtain ⟨bs, e, rfl⟩ := e
    cases h
    rw [allB_rep r e]
    rfl
  | _, .int _ :: ds, _, .cons h r, e => by cases e
  | _, .non :: ds, _, .cons h r, e => by cases e
  | _, .str _ :: ds, _, .cons h r, e => by cases e
  | _, .tup _ :: ds, _, .cons h r, e => by cases e
  | _, .lst _ :: ds, _, .cons h r, e => by cases e
  | _, .scr _ :: ds, _, .cons h r, e => by cases e
  | _, .ins _ _ _ :: ds, _, .cons h r, e => by cases e
  | _, .cls _ :: ds, _, .cons h r, e => by cases e
@[simp] def fAll : List D → Option X
  | [.lst ds] => (allB ds).map fun bs => .val (.bl (bs.all id))
  | _ => none
theorem C_all : CallS K (rAll K) fAll := by
  intro F G H σ ρ vs ds z Q R hx ez q
  unfold fAll at ez
  split at ez
  · rw [Option.map_eq_some_iff] at ez
    obtain ⟨bs, e, rfl⟩ := ez
    obtain ⟨v, rfl, h⟩ := hx.one
    obtain ⟨a, ws, rfl, h, r⟩ := h.lst R.gh
    rw [allB_rep r e] at h
    exact ⟨a, bs, rfl, .inl (.inl h), q _ G H R (Same.refl G) (.bl _)⟩
  · cases ez
@[simp] def fAny : List D → Option X
  | [.lst ds] => (allB ds).map fun bs => .val (.bl (bs.any id))
  | _ => none
@[simp] def allI : List D → Option (List Int)
  | [] => some []
  | .int b :: ds => (allI ds).map (b :: ·)
  | _ => none
@[simp] def fSum : List D → Option X
  | [.lst ds] => (allI ds).map fun bs => .val (.int bs.sum)
  | _ => none
@[simp] def allS : List D → Option (List Str)
  | [] => some []
  | .str b :: ds => (allS ds).map (b :: ·)
  | _ => none
def fRepr : List D → Option X
  | [.int i] => if i.natAbs.log2 < 1920 then some (.val (.str (toString i))) else none
  | [.tup ds] => match (D.tup ds).py with
    | some p => if p.showable = true ∧ p.hasDict = false ∧ p.depth ≤ 60 ∧ p.shown.length ≤ sizeLine then some (.val (.str p.shown)) else none
    | none => none
  | [.lst ds] => match (D.lst ds).py with
    | some p => if p.showable = true ∧ p.hasDict = false ∧ p.depth ≤ 60 ∧ p.shown.length ≤ sizeLine then some (.val (.str p.shown)) else none
    | none => none
  | [.bl b] => some (.val (.str (if b then "True" else "False")))
  | _ => none
def rReprB : List V → Hp → VK → Prop := fun xs H Q => ∃ b : Bool, xs = [.bl b] ∧ Q (.str (if b then "True" else "False")) H
theorem call_reprB {X : Cx} : CallR X (.builtin "repr") rReprB := by
  intro pins s σ H xs us Q I r h
  obtain ⟨b, rfl, q⟩ := h
  obtain ⟨u, rfl, ru⟩ := r.one
  cases (show u = Value.bool b from ru)
  refine PySem.P.repr_of_bool ⟨.str (if b then "True" else "False"), H, I.tok _, ?_, q⟩
  cases b <;> exact ⟨_, rfl⟩
def rRepr2 (K : Fg) : List V → Hp → VK → Prop := fun xs H Q => (∃ i, xs = [.int i] ∧ i.natAbs.log2 < 1920 ∧ Q (.str (toString i)) H) ∨ rReprD K xs H Q ∨ rReprB xs H Q
theorem C_repr : CallS K (rRepr2 K) fRepr := by
  intro F G H σ ρ vs ds z Q R hx ez q
  unfold fRepr at ez
  split at ez
  · split at ez
    · rename_i hc
      cases ez
      obtain ⟨v, rfl, h⟩ := hx.one
      obtain rfl := h.int
      exact .inl ⟨_, rfl, hc, q _ G H R (Same.refl G) (.str _)⟩
    · cases ez
  · split at ez
    · rename_i p ep
      split at ez
      · rename_i hc
        cases ez
        obtain ⟨v, rfl, h⟩ := hx.one
        have h' := (h.rep R.gh).dp ep
        obtain ⟨a, ws, rfl, _⟩ := h.tup R.gh
        exact .inr (.inl ⟨a, p, rfl, h', hc.1, hc.2.1, hc.2.2.1, hc.2.2.2, q _ G H R (Same.refl G) (.str _)⟩)
      · cases ez
    · cases ez
  · split at ez
    · rename_i p ep
      split at ez
      · rename_i hc
        cases ez
        obtain ⟨v, rfl, h⟩ := hx.one
        have h' := (h.rep R.gh).dp ep
        obtain ⟨a, ws, rfl, _⟩ := h.lst R.gh
        exact .inr (.inl ⟨a, p, rfl, h', hc.1, hc.2.1, hc.2.2.1, hc.2.2.2, q _ G H R (Same.refl G) (.str _)⟩)
      · cases ez
    · cases ez
  · cases ez
    obtain ⟨v, rfl, h⟩ := hx.one
    obtain rfl := h.bl
    exact .inr (.inr ⟨_, rfl, q _ G H R (Same.refl G) (.str _)⟩)
  · cases ez
def rgD (a b : Int) : List D := (List.range (b - a).toNat).map fun i => D.int (a + (i : Nat))
abbrev LRg (K : Fg) (E : XK) (t : L2.St → Hp → (Int → Int → Hp → Prop) → Prop) (T : En → Res (Int × Int)) : Prop := ∀ (F : Fm) (G H : Hp) (σ : L2.St) (ρ : En) (Q : Int → Int → Hp → Prop), Rl K F G H σ ρ →
  Wants K E (fun _ _ _ _ _ b a => b = a) F G σ (fun (p : Int × Int) H => Q p.1 p.2 H) (T ρ) → t σ H Q
def g1 (A : En → Res X) : En → Res (Int × Int) := fun ρ => (A ρ).bind fun a ρ1 => lift ((asI ρ1 a).map fun n => (0, n)) ρ1
def g2 (A B : En → Res X) : En → Res (Int × Int) := fun ρ => (A ρ).bind fun a ρ1 => (B ρ1).bind fun b ρ2 => match asI ρ2 a.settle, asI ρ2 b with
  | some i, some j => .ok (i, j) ρ2
  | _, _ => .stuck
theorem G_2 (ha : LE K E ta A) (hb : LE K E tb B) : LRg K E (tRg2 ta tb) (g2 A B) := by
  intro F G H σ ρ Q R w
  refine ha F G H σ ρ _ R (w.bind fun x a G' H' ρ' R' s hx w' => ?_)
  obtain ⟨G1, R1, s1, hx1⟩ := R'.settle hx
  refine hb F G1 H' σ ρ' _ R1 ((w'.mono s1).bind fun y b G2 H2 ρ2 R2 s2 hy w2 => ?_)
  cases e1 : asI ρ2 a.settle with
  | none => rw [e1] at w2; exact w2.elim
  | some i =>
    cases e2 : asI ρ2 b with
    | none => rw [e1, e2] at w2; exact w2.elim
    | some j =>
      rw [e1, e2] at w2
      exact ⟨i, j, R2.asI (hx1.keep settle_no s2) e1, R2.asI hy e2, w2 (i, j) G2 H2 R2 (Same.refl G2) rfl⟩
open Classical in
noncomputable def dLstRg (T : En → Res (Int × Int)) : En → Res X := fun ρ => (T ρ).bind fun p ρ1 => if RgOk p.1 p.2 then .ok (.new (.lst (rgD p.1 p.2))) ρ1 else .stuck
theorem rg_rep {G : Hp} {a b : Int} : RepA K G (rgV a b) (rgD a b) := by
  unfold rgV rgD
  induction (List.range (b - a).toNat) with
  | nil => exact .nil
  | cons i is ih => exact .cons (.int _) ih
theorem L_lstRg {te : L2.St → Hp → (Int → Int → Hp → Prop) → Prop} {T : En → Res (Int × Int)} (ht : LRg K E te T) : LE K E (tLstRg te) (dLstRg T) := by
  intro F G H σ ρ Q R w
  refine ht F G H σ ρ _ R (w.bind fun p p' G' H' ρ' R' s e w' => ?_)
  subst e
  split at w'
  · rename_i hc
    refine ⟨hc, fun q nq => ?_⟩
    obtain ⟨R2, r2⟩ := newL R' nq (rg_rep (K := K) (G := G') (a := p.1) (b := p.2))
    exact w' _ _ _ R2 (Same.refl G') r2
  · exact w'.elim
@[simp] def fmtD : D → Option Str
  | .str y => if y.length ≤ sizeLine then some y else none
  | .int i => if i.natAbs.log2 < 1920 then some (toString i) else none
  | _ => none
def dFmt (A : En → Res X) : En → Res X := fun ρ => (A ρ).bind fun a ρ1 => match deref ρ1 a with
  | some d => lift ((fmtD d).map fun s => X.val (.str s)) ρ1
  | none => .stuck
def jNil : Str → En → Res Str := fun acc ρ => .ok acc ρ
def jCons (A : En → Res X) (J : Str → En → Res Str) : Str → En → Res Str := fun acc ρ => (A ρ).bind fun a ρ1 => match deref ρ1 a with
  | some (.str y) => if (acc ++ y).length ≤ sizeLine then J (acc ++ y) ρ1 else .stuck
  | _ => .stuck
def dJoin (J : Str → En → Res Str) : En → Res X := fun ρ => (J Str.empty ρ).bind fun s ρ1 => .ok (.val (.str s)) ρ1
def dMt (f : D → List D → Option X) (A : En → Res X) (T : En → Res (List X)) : En → Res X := fun ρ => (A ρ).bind fun a ρ1 => match deref ρ1 a with
  | some (.str s) => (T ρ1).bind fun xs ρ2 => match derefs ρ2 xs with
    | some ds => lift (f (.str s) ds) ρ2
    | none => .stuck
  | _ => .stuck
@[simp] def fJoin : D → List D → Option X
  | .str a, [.lst ds] | .str a, [.tup ds] => match allS ds with
    | some ys => if (ys.map (·.length)).sum + ys.length * a.length ≤ 16777216 then some (.val (.str (Txt.join a ys))) else none
    | none => none
  | _, _ => none
end
theorem call_len2 {X : Cx} {K : Fg} (h : X.K = K := by rfl) : CallR X (.builtin "len") (rLen2 K) := h ▸ CallRor call_len_seq call_len_str
theorem call_int2 {X : Cx} : CallR X (.type "int") rInt2 := CallRor call_int1 call_int_str
theorem call_repr2 {X : Cx} {K : Fg} (hg : X.A.guards = some []) (hu : X.A.units + 64 < cLine) (h : X.K = K := by rfl) : CallR X (.builtin "repr") (rRepr2 K) := h ▸ CallRor SkE.call_repr_int (CallRor (call_reprD hg hu) call_reprB)
end DL
set_option Elab.async false
set_option linter.all false
set_option maxRecDepth 100000
set_option maxHeartbeats 2000000
namespace DL
open PySem PySem.Spec PyProof.Rows L2 DD
def Fm.at (F : Fm) (G : Hp) : Fm := { F with G0 := G }
def Fm.hold (F : Fm) (a : Addr) (o : HO) : Fm := { F with H0 := upd F.H0 a o }
section
variable {K : Fg} {F : Fm} {G G' H H' : Hp} {σ σ' : L2.St} {ρ ρ' : En} {a p : Addr}
theorem Rl.at (R : Rl K F G H σ ρ) : Rl K (F.at G) G H σ ρ :=
  ⟨R.gh, Same.refl G, fun a o h h' => (by rw [show G a = none from h'] at h; cases h), R.hk, R.hm, R.hl, R.sl, R.di, R.mi⟩
theorem Rl.back (R : Rl K F G H σ ρ) (R' : Rl K (F.at G) G' H' σ' ρ') : Rl K F G' H' σ' ρ' :=
  ⟨R'.gh, R.g0.trans R'.g0, fun a o h h' => (by
    cases e : G a with
    | some u => exact R.gn a u e h'
    | none => exact R'.gn a o h e), R'.hk, R'.hm, R'.hl, R'.sl, R'.di, R'.mi⟩
theorem RepX.at {v : V} {x : X} (h : RepX K (F.at G0) G H σ ρ v x) : RepX K F G H σ ρ v x := by cases x <;> exact h
/-- what no slot owns is held -/
theorem Rl.hold {o : HO} (R : Rl K F G H σ ρ) (h : H a = some o) (h0 : F.H0 a = none) (hg : G a = none) (n : ∀ (j : Nat) (u : O), ρ[j]? = some (.own u) → σ[j]? ≠ some (some (.ref a))) : Rl K (F.hold a o) G H σ ρ where
  gh := R.gh
  g0 := R.g0
  gn := fun b u hb hb' => by
    show upd F.H0 a o b = none
    rw [upd_ne (ne_of_none hb hg)]
    exact R.gn b u hb hb'
  hk := fun b u hb hb' => by
    by_cases q : b = a
    · subst q
      rw [show (F.hold b o).H0 b = some o from upd_same] at hb
      cases hb
      exact h
    · rw [show (F.hold a o).H0 b = F.H0 b from upd_ne q] at hb
      exact R.hk b u hb hb'
  hm := fun i b hb => by
    obtain ⟨h1, h2, h3⟩ := R.hm i b hb
    refine ⟨h1, ?_, h3⟩
    show upd F.H0 a o b ≠ none
    rw [upd_ne (fun q => h2 (by rw [q]; exact h0))]
    exact h2
  hl := R.hl
  sl := fun i s hs => by
    obtain ⟨x, h1, h2⟩ := R.sl i s hs
    refine ⟨x, h1, ?_⟩
    cases s with
    | none => trivial
    | val d => exact h2
    | own u =>
      obtain ⟨b, rfl, e2, e3, e4⟩ := h2
      refine ⟨b, rfl, ?_, e3, e4⟩
      show upd F.H0 a o b = none
      rw [upd_ne (fun q => n i u hs (by rw [h1, q]))]
      exact e2
    | bor u => exact h2
    | lck u =>
      obtain ⟨b, u', rfl, e2, e3, e5, e6, e4⟩ := h2
      refine ⟨b, u', rfl, e2, e3, ?_, e6, e4⟩
      show upd F.H0 a o b = some u'
      rw [upd_ne (fun q => by rw [q, h0] at e5; cases e5)]
      exact e5
  di := R.di
  mi := R.mi
theorem Rl.noM (R : Rl K F G H σ ρ) (h0 : F.H0 a = none) (i : Nat) : F.M i ≠ some a := fun z => (R.hm i a z).2.1 h0
theorem Rl.heldG {o : HO} (R : Rl K (F.hold a o) G H σ ρ) (hg : F.G0 a = none) : G a = none := by
  cases e : G a with
  | none => rfl
  | some u =>
    have := R.gn a u e hg
    rw [show (F.hold a o).H0 a = some o from upd_same] at this
    cases this
theorem Rl.heldH {o : HO} (R : Rl K (F.hold a o) G H σ ρ) (hm : ∀ i, F.M i ≠ some a) : H a = some o := R.hk a o upd_same hm
theorem Rl.heldN {o : HO} (R : Rl K (F.hold a o) G H σ ρ) : ∀ (j : Nat) (u : O), ρ[j]? = some (.own u) → σ[j]? ≠ some (some (.ref a)) := fun j u hj z => by
  obtain ⟨b, h1, h2, _⟩ := R.own hj
  rw [h1] at z
  cases z
  rw [show (F.hold a o).H0 a = some o from upd_same] at h2
  cases h2
/-- held no longer -/
theorem Rl.unhold {o : HO} (R : Rl K (F.hold a o) G H σ ρ) (h0 : F.H0 a = none) (hl : ∀ i, F.L i ≠ some a) (hm : ∀ i, F.M i ≠ some a) : Rl K F G H σ ρ where
  gh := R.gh
  g0 := R.g0
  gn := fun b u hb hb' => by
    by_cases q : b = a
    · rw [q]; exact h0
    · have := R.gn b u hb hb'
      rw [show (F.hold a o).H0 b = F.H0 b from upd_ne q] at this
      exact this
  hk := fun b u hb hb' => R.hk b u (by
    rw [show (F.hold a o).H0 b = F.H0 b from upd_ne (ne_of_none hb h0)]
    exact hb) hb'
  hm := fun i b hb => by
    obtain ⟨h1, h2, h3⟩ := R.hm i b hb
    refine ⟨h1, ?_, h3⟩
    rw [show (F.hold a o).H0 b = F.H0 b from upd_ne (fun q => hm i (by rw [← q]; exact hb))] at h2
    exact h2
  hl := R.hl
  sl := fun i s hs => by
    obtain ⟨x, h1, h2⟩ := R.sl i s hs
    refine ⟨x, h1, ?_⟩
    cases s with
    | none => trivial
    | val d => exact h2
    | own u =>
      obtain ⟨b, rfl, e2, e3, e4⟩ := h2
      refine ⟨b, rfl, ?_, e3, e4⟩
      by_cases q : b = a
      · rw [q]; exact h0
      · rw [show (F.hold a o).H0 b = F.H0 b from upd_ne q] at e2
        exact e2
    | bor u => exact h2
    | lck u =>
      obtain ⟨b, u', rfl, e2, e3, e5, e6, e4⟩ := h2
      refine ⟨b, u', rfl, e2, e3, ?_, e6, e4⟩
      rw [show (F.hold a o).H0 b = F.H0 b from upd_ne (fun q => hl i (by rw [← q]; exact e2))] at e5
      exact e5
  di := R.di
  mi := R.mi
theorem Rl.rehold {o o' : HO} (R : Rl K (F.hold a o) G H σ ρ) (h0 : F.H0 a = none) (hg : F.G0 a = none) (hl : ∀ i, F.L i ≠ some a) (hm : ∀ i, F.M i ≠ some a) : Rl K (F.hold a o') G (upd H a o') σ ρ := by
  have N := R.heldN
  have hG := R.heldG hg
  have R1 := R.unhold h0 hl hm
  have far : ∀ b, b ≠ a → upd H a o' b = H b := fun b q => upd_ne q
  have R2 : Rl K F G (upd H a o') σ ρ := by
    refine ⟨fun b u hb => by rw [far b (ne_of_none hb hG)]; exact R1.gh b u hb, R1.g0, R1.gn, fun b u hb hb' => by rw [far b (ne_of_none hb h0)]; exact R1.hk b u hb hb', fun i b hb => ?_, R1.hl, fun i s hs => ?_, R1.di, R1.mi⟩
    · obtain ⟨h1, h2, h3⟩ := R1.hm i b hb
      exact ⟨by rw [far b (fun q => hm i (by rw [← q]; exact hb))]; exact h1, h2, h3⟩
    · obtain ⟨x, h1, h2⟩ := R1.sl i s hs
      refine ⟨x, h1, ?_⟩
      have mv : ∀ b w, b ≠ a → ObjO K G H b w → ObjO K G (upd H a o') b w := fun b w q z => z.mono (Same.refl G) fun u e => by rw [far b q]; exact e
      cases s with
      | none => trivial
      | val d => exact h2
      | own u =>
        obtain ⟨b, rfl, e2, e3, e4⟩ := h2
        exact ⟨b, rfl, e2, e3, mv b u (fun q => N i u hs (by rw [h1, q])) e4⟩
      | bor u =>
        obtain ⟨b, rfl, e2, e3, e4⟩ := h2
        exact ⟨b, rfl, e2, e3, mv b u (fun q => hm i (by rw [← q]; exact e2)) e4⟩
      | lck u =>
        obtain ⟨b, u', rfl, e2, e3, e5, e6, e4⟩ := h2
        exact ⟨b, u', rfl, e2, e3, e5, e6, mv b u (fun q => hl i (by rw [← q]; exact e2)) e4⟩
  exact R2.hold upd_same h0 hG N
theorem Rl.noL (R : Rl K F G H σ ρ) (h0 : F.H0 a = none) (i : Nat) : F.L i ≠ some a := fun z => by
  obtain ⟨o, h⟩ := R.hl i a z
  obtain ⟨x, _, b, u, _, e2, _, e5, _⟩ := R.sl i _ h
  rw [z] at e2
  cases e2
  rw [h0] at e5
  cases e5
theorem RepX.unhold {v : V} {x : X} {o : HO} (h : RepX K (F.hold a o) G H σ ρ v x) (h0 : F.H0 a = none) : RepX K F G H σ ρ v x := by
  cases x with
  | val d => exact h
  | own i => exact h
  | new u =>
    obtain ⟨b, rfl, e2, e3⟩ := h
    refine ⟨b, rfl, ?_, e3⟩
    by_cases q : b = a
    · rw [q]; exact h0
    · rw [show (F.hold a o).H0 b = F.H0 b from upd_ne q] at e2
      exact e2
end
inductive SR where
  | nx (ρ : En) | rt (x : X) (ρ : En) | bk (ρ : En) | ct (ρ : En) | err (x : Xc) (ρ : En) | stuck
def Res.sb {α : Type} : Res α → (α → En → SR) → SR
  | .ok a ρ, U => U a ρ
  | .err x ρ, _ => .err x ρ
  | .stuck, _ => .stuck
def WS (K : Fg) (E : XK) (F : Fm) (D : Ends) : SR → Prop
  | .nx ρ => ∀ σ G H, Rl K F G H σ ρ → D.nx σ H
  | .rt x ρ => ∀ v σ G H, Rl K F G H σ ρ → RepX K F G H σ ρ v x → D.rt v H
  | .bk ρ => ∀ σ G H, Rl K F G H σ ρ → D.bk σ H
  | .ct ρ => ∀ σ G H, Rl K F G H σ ρ → D.ct σ H
  | .err x ρ => ∀ c od σ G H, Rl K F G H σ ρ → XRep K G H c od x → E c od H
  | .stuck => False
def LS (K : Fg) (E : XK) (t : TS) (T : En → SR) : Prop := ∀ (F : Fm) (G H : Hp) (σ : L2.St) (ρ : En) (D : Ends), Rl K F G H σ ρ → WS K E F D (T ρ) → t D σ H
section
variable {α β : Type} {K : Fg} {E : XK} {F : Fm} {G G' H H' : Hp} {σ : L2.St} {ρ ρ' : En}
theorem WS.sb {rel : Rel β α} {D : Ends} {Q1 : β → Hp → Prop} {r : Res α} {U : α → En → SR} (h : WS K E F D (r.sb U))
    (k : ∀ b a G' H' ρ', Rl K F G' H' σ ρ' → Same G G' → rel F G' H' σ ρ' b a → WS K E F D (U a ρ') → Q1 b H') : Wants K E rel F G σ Q1 r := by
  cases r with
  | ok a ρ' => exact fun b G2 H2 R s q => k b a G2 H2 ρ' R s q h
  | err x ρ' => exact fun c od G2 H2 R _ x => h c od σ G2 H2 R x
  | stuck => exact h
variable {ta tb : TE} {A B : En → Res X} {tt : TT} {T : En → Res Bool} {s u : TS} {S U : En → SR}
def sNext : En → SR := fun ρ => .nx ρ
theorem L_next : LS K E tNext sNext := fun F G H σ ρ D R w => w σ G H R
def sSeq (S U : En → SR) : En → SR := fun ρ => match S ρ with
  | .nx ρ1 => U ρ1
  | r => r
theorem L_seq (h1 : LS K E s S) (h2 : LS K E u U) : LS K E (tSeq s u) (sSeq S U) := by
  intro F G H σ ρ D R w
  refine h1 F G H σ ρ _ R ?_
  unfold sSeq at w
  cases e : S ρ with
  | nx ρ1 =>
    rw [e] at w
    exact fun σ' G' H' R' => h2 F G' H' σ' ρ1 D R' w
  | rt x ρ1 => rw [e] at w; exact w
  | bk ρ1 => rw [e] at w; exact w
  | ct ρ1 => rw [e] at w; exact w
  | err x ρ1 => rw [e] at w; exact w
  | stuck => rw [e] at w; exact w
def sDrop (A : En → Res X) : En → SR := fun ρ => (A ρ).sb fun _ ρ1 => .nx ρ1
theorem L_drop (ha : LE K E ta A) : LS K E (tDrop ta) (sDrop A) := by
  intro F G H σ ρ D R w
  exact ha F G H σ ρ _ R (w.sb fun b a G' H' ρ' R' _ _ w' => w' σ G' H' R')
def sRet (A : En → Res X) : En → SR := fun ρ => (A ρ).sb fun a ρ1 => .rt a ρ1
theorem L_ret (ha : LE K E ta A) : LS K E (tRet ta) (sRet A) := by
  intro F G H σ ρ D R w
  exact ha F G H σ ρ _ R (w.sb fun b a G' H' ρ' R' _ hx w' => w' b σ G' H' R' hx)
def sRetN : En → SR := fun ρ => .rt (.val .non) ρ
def sBreak : En → SR := fun ρ => .bk ρ
theorem L_break : LS K E tBreak sBreak := fun F G H σ ρ D R w => w σ G H R
def sCont : En → SR := fun ρ => .ct ρ
def sIf (T : En → Res Bool) (S U : En → SR) : En → SR := fun ρ => (T ρ).sb fun b ρ1 => match b with
  | true => S ρ1
  | false => U ρ1
theorem L_if (ht : LT K E tt T) (h1 : LS K E s S) (h2 : LS K E u U) : LS K E (tIfS tt s u) (sIf T S U) := by
  intro F G H σ ρ D R w
  refine ht F G H σ ρ _ R (w.sb fun b a G' H' ρ' R' _ e w' => ?_)
  subst e
  cases b with
  | true => exact iteT (h1 F G' H' σ ρ' D R' w')
  | false => exact iteF (h2 F G' H' σ ρ' D R' w')
@[simp] def putX (i : Nat) (x : X) (ρ : En) : SR := match x with
  | .val d => if freeAt ρ i then .nx (ρ.set i (.val d)) else .stuck
  | .new o => if freeAt ρ i then .nx (ρ.set i (.own o)) else .stuck
  | .own j => match toVal ρ (.own j) with
    | some (d, ρ1) => if freeAt ρ1 i then .nx (ρ1.set i (.val d)) else .stuck
    | none => .stuck
theorem put_run {i : Nat} {x : X} {v : V} {D : Ends} (R : Rl K F G H σ ρ) (hx : RepX K F G H σ ρ v x) (w : WS K E F D (putX i x ρ)) : D.nx (σ.set i (some v)) H := by
  unfold putX at w
  cases x with
  | val d =>
    dsimp only at w
    split at w
    · rename_i hf
      exact w _ G H (R.put hf ⟨v, rfl, hx⟩ rfl fun o e => by cases e)
    · exact w.elim
  | new o =>
    dsimp only at w
    split at w
    · rename_i hf
      obtain ⟨a, rfl, h0, hg, ho, n⟩ := hx
      exact w _ G H (R.put hf ⟨a, rfl, h0, hg, ho⟩ rfl fun o e j o' hj hr => n j o' hr)
    · exact w.elim
  | own j =>
    dsimp only at w
    split at w
    · rename_i d ρ1 e
      obtain ⟨G', R', s, r⟩ := R.toVal hx e
      split at w
      · rename_i hf
        exact w _ G' H (R'.put hf ⟨v, rfl, r⟩ rfl fun o e => by cases e)
      · exact w.elim
    · exact w.elim
def sSet (i : Nat) (A : En → Res X) : En → SR := fun ρ => (A ρ).sb fun a ρ1 => putX i a ρ1
theorem L_set {i : Nat} (ha : LE K E ta A) : LS K E (tAsg ta (gName i)) (sSet i A) := by
  intro F G H σ ρ D R w
  exact ha F G H σ ρ _ R (w.sb fun b a G' H' ρ' R' _ hx w' => put_run R' hx w')
abbrev Tg := D → En → Option En
def LTg (K : Fg) (vs : List Nat) (g : TG) (U : Tg) : Prop := ∀ (F : Fm) (G H : Hp) (σ : L2.St) (ρ ρ' : En) (v : V) (d : D) (Q : L2.St → Hp → Prop), Rl K F G H σ ρ → Rep K G v d → U d ρ = some ρ' →
  (∀ σ', Rl K F G H σ' ρ' → wipe σ' vs = wipe σ vs → Q σ' H) → g v σ H Q
@[simp] def uName (i : Nat) : Tg := fun d ρ => if freeAt ρ i then some (ρ.set i (.val d)) else none
theorem wipe_set : ∀ {vs : List Nat} {i : Nat} {σ : L2.St} {x : Option V}, i ∈ vs → wipe (σ.set i x) vs = wipe σ vs
  | v :: vs, i, σ, x, h => by
    by_cases q : i ∈ vs
    · show (wipe (σ.set i x) vs).set v none = (wipe σ vs).set v none
      rw [wipe_set q]
    · have e : i = v := by
        rcases List.mem_cons.mp h with h | h
        · exact h
        · exact absurd h q
      subst e
      show (wipe (σ.set i x) vs).set i none = (wipe σ vs).set i none
      apply List.ext_getElem?
      intro j
      by_cases e : i = j
      · subst e
        by_cases hl : i < (wipe σ vs).length
        · rw [List.getElem?_set_self hl, List.getElem?_set_self (by rw [wipe_length] at hl ⊢; simpa using hl)]
        · rw [List.getElem?_eq_none (by rw [List.length_set, wipe_length, List.length_set]; rw [wipe_length] at hl; omega), List.getElem?_eq_none (by rw [List.length_set]; omega)]
      · rw [List.getElem?_set_ne e, List.getElem?_set_ne e]
        have : ∀ (ws : List Nat) (τ : L2.St), i ∉ ws → (wipe (τ.set i x) ws)[j]? = (wipe τ ws)[j]? := by
          intro ws
          induction ws with
          | nil => intro τ _; show (τ.set i x)[j]? = τ[j]?; rw [List.getElem?_set_ne e]
          | cons w ws ih =>
            intro τ hn
            show ((wipe (τ.set i x) ws).set w none)[j]? = ((wipe τ ws).set w none)[j]?
            by_cases q2 : w = j
            · subst q2
              by_cases hl : w < τ.length
              · rw [List.getElem?_set_self (by rw [wipe_length]; simpa using hl), List.getElem?_set_self (by rw [wipe_length]; exact hl)]
              · rw [List.getElem?_eq_none (by rw [List.length_set, wipe_length, List.length_set]; omega), List.getElem?_eq_none (by rw [List.length_set, wipe_length]; omega)]
            · rw [List.getElem?_set_ne q2, List.getElem?_set_ne q2]
              exact ih τ fun z => hn (List.mem_cons_of_mem _ z)
        exact this vs σ q
theorem U_name {vs : List Nat} {i : Nat} (hi : i ∈ vs) : LTg K vs (gName i) (uName i) := by
  intro F G H σ ρ ρ' v d Q R hr e q
  unfold uName at e
  split at e
  · rename_i hf
    cases e
    exact q _ (R.put hf ⟨v, rfl, hr⟩ rfl fun o e => by cases e) (wipe_set hi)
  · cases e
abbrev Tgs := List D → En → Option En
def LTgs (K : Fg) (vs : List Nat) (g : TGs) (U : Tgs) : Prop := ∀ (F : Fm) (G H : Hp) (σ : L2.St) (ρ ρ' : En) (ws : List V) (ds : List D) (Q : L2.St → Hp → Prop), Rl K F G H σ ρ → RepA K G ws ds → U ds ρ = some ρ' →
  (∀ σ', Rl K F G H σ' ρ' → wipe σ' vs = wipe σ vs → Q σ' H) → g ws σ H Q
@[simp] def usNil : Tgs := fun ds ρ => match ds with
  | [] => some ρ
  | _ => none
@[simp] def usCons (U : Tg) (Us : Tgs) : Tgs := fun ds ρ => match ds with
  | d :: ds => (U d ρ).bind fun ρ1 => Us ds ρ1
  | [] => none
theorem Us_nil {vs : List Nat} : LTgs K vs gNil usNil := by
  intro F G H σ ρ ρ' ws ds Q R hr e q
  cases ds with
  | nil =>
    cases e
    cases hr
    exact ⟨rfl, q σ R rfl⟩
  | cons d ds => cases e
theorem Us_cons {vs : List Nat} {g : TG} {gs : TGs} {U : Tg} {Us : Tgs} (h : LTg K vs g U) (hs : LTgs K vs gs Us) : LTgs K vs (gCons g gs) (usCons U Us) := by
  intro F G H σ ρ ρ' ws ds Q R hr e q
  cases ds with
  | nil => cases e
  | cons d ds =>
    cases hr with
    | cons r rs =>
      simp only [usCons] at e
      cases e1 : U d ρ with
      | none => rw [e1] at e; cases e
      | some ρ1 =>
        rw [e1] at e
        exact ⟨_, _, rfl, h F G H σ ρ ρ1 _ d _ R r e1 fun σ1 R1 w1 => hs F G H σ1 ρ1 ρ' _ ds Q R1 rs e fun σ2 R2 w2 => q σ2 R2 (w2.trans w1)⟩
@[simp] def uTup (n : Nat) (Us : Tgs) : Tg := fun d ρ => match d with
  | .tup ds => if ds.length = n then Us ds ρ else none
  | _ => none
theorem U_tup {vs : List Nat} {gs : TGs} {Us : Tgs} {n : Nat} (hs : LTgs K vs gs Us) : LTg K vs (gTup K n gs) (uTup n Us) := by
  intro F G H σ ρ ρ' v d Q R hr e q
  cases d <;> first | (cases e; done) | skip
  rename_i ds
  simp only [uTup] at e
  split at e
  · rename_i hn
    cases hr with
    | tup h r => exact ⟨_, _, rfl, smTup R.gh h, by rw [r.len, hn], hs F G H σ ρ ρ' _ ds Q R r e q⟩
  · cases e
def sTgt (U : Tg) (A : En → Res X) : En → SR := fun ρ => (A ρ).sb fun a ρ1 => match toVal ρ1 a with
  | some (d, ρ2) => match U d ρ2 with
    | some ρ3 => .nx ρ3
    | none => .stuck
  | none => .stuck
theorem L_tgt {vs : List Nat} {g : TG} {U : Tg} (ha : LE K E ta A) (hg : LTg K vs g U) : LS K E (tAsg ta g) (sTgt U A) := by
  intro F G H σ ρ D R w
  refine ha F G H σ ρ _ R (w.sb fun b a G' H' ρ' R' _ hx w' => ?_)
  cases e : toVal ρ' a with
  | none => rw [e] at w'; exact w'.elim
  | some p =>
    obtain ⟨d, ρ2⟩ := p
    rw [e] at w'
    obtain ⟨G2, R2, s2, r2⟩ := R'.toVal hx e
    dsimp only at w'
    cases e2 : U d ρ2 with
    | none => rw [e2] at w'; exact w'.elim
    | some ρ3 =>
      rw [e2] at w'
      exact hg F G2 H' σ ρ2 ρ3 b d _ R2 r2 e2 fun σ' R3 _ => w' σ' G2 H' R3
end
end DL
set_option Elab.async false
set_option linter.all false
set_option maxRecDepth 100000
set_option maxHeartbeats 2000000
namespace DL
open PySem PySem.Spec PyProof.Rows L2 DD
section
variable {K : Fg} {E : XK} {F : Fm} {G G' H H' : Hp} {σ : L2.St} {ρ ρ' : En} {ta tb : TE} {A B : En → Res X} {t : TA} {T : En → Res (List X)}
abbrev Mu := List D → List D → Option (D × List D)
@[simp] def lstAt (ρ : En) (i : Nat) : Option (List D) := match ρ[i]? with
  | some (.own (.lst ds)) | some (.bor (.lst ds)) => some ds
  | _ => none
@[simp] def setAt (ρ : En) (i : Nat) (ds : List D) : En := match ρ[i]? with
  | some (.own _) => ρ.set i (.own (.lst ds))
  | some (.bor _) => ρ.set i (.bor (.lst ds))
  | _ => ρ
theorem Rl.lstAt {i : Nat} {ds : List D} (R : Rl K F G H σ ρ) (h : lstAt ρ i = some ds) : ∃ s a vs, ρ[i]? = some s ∧ s.co = some (.lst ds) ∧ σ[i]? = some (some (.ref a)) ∧ G a = none ∧ H a = some (.lst vs) ∧ RepA K G vs ds := by
  unfold DL.lstAt at h
  split at h
  · rename_i ds' e
    cases h
    obtain ⟨a, h1, _, h2, vs, h3, h4⟩ := R.own e
    exact ⟨_, a, vs, e, rfl, h1, h2, h3, h4⟩
  · rename_i ds' e
    cases h
    obtain ⟨a, h1, _, h2, vs, h3, h4⟩ := R.bor e
    exact ⟨_, a, vs, e, rfl, h1, h2, h3, h4⟩
  · cases h
theorem Rl.setAt {i : Nat} {ds ds' : List D} {a : Addr} {ws : List V} (R : Rl K F G H σ ρ) (h : DL.lstAt ρ i = some ds) (ha : σ[i]? = some (some (.ref a))) (r : RepA K G ws ds') : Rl K F G (upd H a (.lst ws)) σ (DL.setAt ρ i ds') := by
  obtain ⟨s, b, vs, h1, h2, h3, h4, h5, h6⟩ := R.lstAt h
  rw [ha] at h3
  cases h3
  rcases co_cases h2 with rfl | rfl
  · have R' := R.mut h1 (s' := .own (.lst ds')) rfl ha ⟨ws, upd_same, r⟩
    have e : DL.setAt ρ i ds' = ρ.set i (.own (.lst ds')) := by
      unfold DL.setAt
      rw [h1]
    rw [e]
    exact R'
  · have R' := R.mut h1 (s' := .bor (.lst ds')) rfl ha ⟨ws, upd_same, r⟩
    have e : DL.setAt ρ i ds' = ρ.set i (.bor (.lst ds')) := by
      unfold DL.setAt
      rw [h1]
    rw [e]
    exact R'
def MuS (K : Fg) (r : V → List V → Hp → VK → Prop) (f : Mu) : Prop := ∀ (G H : Hp) (a : Addr) (ws vs : List V) (ds as ds' : List D) (z : D) (Q : VK), Same G H → H a = some (.lst ws) → RepA K G ws ds → RepA K G vs as → f ds as = some (z, ds') →
  (∀ ws' v, RepA K G ws' ds' → Rep K G v z → Q v (upd H a (.lst ws'))) → r (.ref a) vs H Q
def eMut (i : Nat) (f : Mu) (T : En → Res (List X)) : En → Res X := fun ρ => match lstAt ρ i with
  | none => .stuck
  | some _ => (T ρ).bind fun xs ρ1 => match toVals ρ1 xs with
    | none => .stuck
    | some (as, ρ2) => match lstAt ρ2 i with
      | none => .stuck
      | some ds => match f ds as with
        | none => .stuck
        | some (z, ds') => .ok (.val z) (setAt ρ2 i ds')
theorem L_mut {m : V → List V → Hp → VK → Prop} {f : Mu} {i : Nat} (hm : MuS K m f) (ht : LA K E t T) : LE K E (tBM K "list" m (tVar i) t) (eMut i f T) := by
  intro F G H σ ρ Q R w
  unfold eMut at w
  cases e0 : lstAt ρ i with
  | none => rw [e0] at w; exact w.elim
  | some ds0 =>
    rw [e0] at w
    obtain ⟨s, a, vs, h1, h2, h3, h4, h5, h6⟩ := R.lstAt e0
    refine ⟨_, h3, .inl ⟨rfl, vs, .inl (.inl h5)⟩, ht F G H σ ρ _ R (w.bind fun ys xs G1 H1 ρ1 R1 s1 hy w1 => ?_)⟩
    cases e1 : toVals ρ1 xs with
    | none => rw [e1] at w1; exact w1.elim
    | some p =>
      obtain ⟨as, ρ2⟩ := p
      rw [e1] at w1
      dsimp only at w1
      obtain ⟨G2, R2, s2, r2⟩ := R1.toVals hy e1
      cases e2 : lstAt ρ2 i with
      | none => rw [e2] at w1; exact w1.elim
      | some ds =>
        rw [e2] at w1
        dsimp only at w1
        obtain ⟨s', b, ws, g1, g2, g3, g4, g5, g6⟩ := R2.lstAt e2
        rw [h3] at g3
        cases g3
        cases e3 : f ds as with
        | none => rw [e3] at w1; exact w1.elim
        | some p =>
          obtain ⟨z, ds'⟩ := p
          rw [e3] at w1
          dsimp only at w1
          exact hm G2 H1 a ws ys ds as ds' z Q R2.gh g5 g6 r2 e3 fun ws' v q1 q2 => w1 v G2 _ (R2.setAt e2 h3 q1) s2 q2
@[simp] def mAppend : Mu := fun ds as => match as with
  | [d] => if ds.length < sizeLine then some (.non, ds ++ [d]) else none
  | _ => none
theorem M_append : MuS K rAppend mAppend := by
  intro G H a ws vs ds as ds' z Q s h hw hv e q
  unfold mAppend at e
  split at e
  · split at e
    · rename_i hz
      cases e
      cases hv with
      | cons h1 r =>
        cases r
        exact ⟨a, ws, _, rfl, rfl, h, by rw [hw.len]; exact hz, q _ .non (hw.app (.one h1)) .non⟩
    · cases e
  · cases e
@[simp] def mExtend : Mu := fun ds as => match as with
  | [.lst es] => if ds.length + es.length ≤ sizeLine then some (.non, ds ++ es) else none
  | _ => none
theorem M_extend : MuS K rExtend mExtend := by
  intro G H a ws vs ds as ds' z Q s h hw hv e q
  unfold mExtend at e
  split at e
  · split at e
    · rename_i hz
      cases e
      cases hv with
      | cons h1 r =>
        cases r
        cases h1 with
        | lst g1 g2 => exact ⟨a, _, ws, _, rfl, rfl, h, s _ _ g1, by rw [hw.len, g2.len]; exact hz, q _ .non (hw.app g2) .non⟩
    · cases e
  · cases e
@[simp] def mPop : Mu := fun ds as => match as with
  | [.int i] => if -(2 ^ 63) ≤ i ∧ i < 2 ^ 63 then (seqIndex? i ds.length).bind fun k => (ds[k]?).map fun d => (d, ds.eraseIdx k) else none
  | _ => none
@[simp] def mPop0 : Mu := fun ds as => match as with
  | [] => (ds[ds.length - 1]?).map fun d => (d, ds.dropLast)
  | _ => none
def sPut (i : Nat) (A B : En → Res X) : En → SR := fun ρ => (A ρ).sb fun a ρ1 => match toVal ρ1 a with
  | none => .stuck
  | some (d, ρ2) => match lstAt ρ2 i with
    | none => .stuck
    | some _ => (B ρ2).sb fun b ρ3 => match asI ρ3 b, lstAt ρ3 i with
      | some k, some ds => match ixN ds.length k with
        | some j => .nx (setAt ρ3 i (ds.set j d))
        | none => .stuck
      | _, _ => .stuck
theorem L_put {i : Nat} (ha : LE K E ta A) (hb : LE K E tb B) : LS K E (tAsg ta (gSub (tVar i) tb rSetL)) (sPut i A B) := by
  intro F G H σ ρ D R w
  refine ha F G H σ ρ _ R (w.sb fun v a G1 H1 ρ1 R1 s1 hx w1 => ?_)
  cases e : toVal ρ1 a with
  | none => rw [e] at w1; exact w1.elim
  | some p =>
    obtain ⟨d, ρ2⟩ := p
    rw [e] at w1
    dsimp only at w1
    obtain ⟨G2, R2, s2, r2⟩ := R1.toVal hx e
    cases e0 : lstAt ρ2 i with
    | none => rw [e0] at w1; exact w1.elim
    | some ds0 =>
      rw [e0] at w1
      dsimp only at w1
      obtain ⟨s, b, vs, h1, h2, h3, h4, h5, h6⟩ := R2.lstAt e0
      refine ⟨_, h3, hb F G2 H1 σ ρ2 _ R2 (w1.sb fun y k G3 H3 ρ3 R3 s3 hy w3 => ?_)⟩
      cases e1 : asI ρ3 k with
      | none => rw [e1] at w3; exact w3.elim
      | some n =>
        cases e2 : lstAt ρ3 i with
        | none => rw [e1, e2] at w3; exact w3.elim
        | some ds =>
          rw [e1, e2] at w3
          dsimp only at w3
          cases e3 : ixN ds.length n with
          | none => rw [e3] at w3; exact w3.elim
          | some j =>
            rw [e3] at w3
            obtain ⟨s', c, ws, g1, g2, g3, g4, g5, g6⟩ := R3.lstAt e2
            rw [h3] at g3
            cases g3
            exact ⟨b, ws, n, j, rfl, R3.asI hy e1, g5, by rw [g6.len]; exact e3, w3 _ _ _ (R3.setAt e2 h3 (g6.set j (r2.mono s3)))⟩
@[simp] def getF (f : Str) : List Str → List D → Option D
  | k :: ks, d :: ds => if k = f then some d else getF f ks ds
  | _, _ => none
theorem getF_rep {f : Str} {d : D} : ∀ {fs : List (Str × V)} {ks : List Str} {ds : List D}, fs.map (·.1) = ks → RepA K G (fs.map (·.2)) ds → getF f ks ds = some d → ∃ v, fs.lookup f = some v ∧ Rep K G v d
  | [], _, _, rfl, r, e => by cases e
  | (k, x) :: fs, _, _, rfl, r, e => by
    rw [List.map_cons] at r
    cases r with
    | cons h r =>
      simp only [List.map_cons, getF] at e
      by_cases q : k = f
      · rw [if_pos q] at e
        cases e
        exact ⟨x, by simp [List.lookup, q], h⟩
      · rw [if_neg q] at e
        obtain ⟨v, h1, h2⟩ := getF_rep (fs := fs) rfl r e
        refine ⟨v, ?_, h2⟩
        have : (f == k) = false := by rw [beq_eq_false_iff_ne]; exact fun z => q z.symm
        simp only [List.lookup, this]
        exact h1
def dFld (Cs : List Addr) (f : Str) (A : En → Res X) : En → Res X := fun ρ => (A ρ).bind fun a ρ1 => match deref ρ1 a with
  | some (.ins C ks ds) => if C ∈ Cs then lift ((getF f ks ds).map X.val) ρ1 else .stuck
  | _ => .stuck
theorem L_fld {Cs : List Addr} {f : Str} (hc : ∀ C ∈ Cs, Cls K C ∧ NoAttr K C f) (ha : LE K E ta A) : LE K E (tFld K ta f) (dFld Cs f A) := by
  refine LG.bind (k := fun x σ H (Q : VK) => ∃ a C dx fs v, x = .ref a ∧ H a = some (.ins C dx fs) ∧ Cls K C ∧ NoAttr K C f ∧ fs.lookup f = some v ∧ Q v H) ha fun F G H σ ρ x a Q R hx w => ?_
  cases e : deref ρ a with
  | none => rw [e] at w; exact w.elim
  | some d =>
    rw [e] at w
    have hd := R.deref hx e
    cases d <;> try exact w.elim
    rename_i C ks ds
    dsimp only at w
    split at w
    · rename_i hC
      obtain ⟨z, ez, q⟩ := w.lift
      rw [Option.map_eq_some_iff] at ez
      obtain ⟨d, ez, rfl⟩ := ez
      obtain ⟨b, dx, fs, rfl, h1, h2, h3⟩ := hd.ins R.gh
      obtain ⟨v, h4, h5⟩ := getF_rep h2 h3 ez
      exact ⟨b, C, dx, fs, v, rfl, h1, (hc C hC).1, (hc C hC).2, h4, q _ G H R (Same.refl G) h5⟩
    · exact w.elim
@[simp] def putFD (f : Str) (d : D) : List Str → List D → List Str × List D
  | k :: ks, e :: ds => if k = f then (k :: ks, d :: ds) else ((k :: (putFD f d ks ds).1), (e :: (putFD f d ks ds).2))
  | _, _ => ([f], [d])
theorem putF_rep {f : Str} {v : V} {d : D} (h : Rep K G v d) : ∀ {fs : List (Str × V)} {ks : List Str} {ds : List D}, fs.map (·.1) = ks → RepA K G (fs.map (·.2)) ds → (putF f v fs).map (·.1) = (putFD f d ks ds).1 ∧ RepA K G ((putF f v fs).map (·.2)) (putFD f d ks ds).2
  | [], _, _, rfl, r => by
    cases r
    exact ⟨rfl, .cons h .nil⟩
  | (k, x) :: fs, _, _, rfl, r => by
    rw [List.map_cons] at r
    cases r with
    | cons h0 r =>
      obtain ⟨h1, h2⟩ := putF_rep h (fs := fs) rfl r
      rw [show putF f v ((k, x) :: fs) = (if k = f then (k, v) :: fs else (k, x) :: putF f v fs) from rfl]
      simp only [List.map_cons, putFD]
      by_cases q : k = f
      · rw [if_pos q, if_pos q]
        exact ⟨rfl, .cons h r⟩
      · rw [if_neg q, if_neg q]
        exact ⟨by rw [List.map_cons, h1], .cons h0 h2⟩
@[simp] def insAt (ρ : En) (i : Nat) : Option (Addr × List Str × List D) := match ρ[i]? with
  | some (.own (.ins C ks ds)) | some (.bor (.ins C ks ds)) => some (C, ks, ds)
  | _ => none
@[simp] def setIns (ρ : En) (i : Nat) (o : O) : En := match ρ[i]? with
  | some (.own _) => ρ.set i (.own o)
  | some (.bor _) => ρ.set i (.bor o)
  | _ => ρ
def sFldD (Cs : List Addr) (i : Nat) (f : Str) (A : En → Res X) : En → SR := fun ρ => (A ρ).sb fun a ρ1 => match toVal ρ1 a with
  | none => .stuck
  | some (d, ρ2) => match insAt ρ2 i with
    | some (C, ks, ds) => if C ∈ Cs ∧ ks.length < 1000 then .nx (setIns ρ2 i (.ins C (putFD f d ks ds).1 (putFD f d ks ds).2)) else .stuck
    | none => .stuck
theorem L_sfld {Cs : List Addr} {i : Nat} {f : Str} (hc : ∀ C ∈ Cs, Cls K C ∧ NoAttr K C f) (ha : LE K E ta A) : LS K E (sFld K (tVar i) ta f) (sFldD Cs i f A) := by
  intro F G H σ ρ D R w
  refine ha F G H σ ρ _ R (w.sb fun v a G1 H1 ρ1 R1 s1 hx w1 => ?_)
  cases e : toVal ρ1 a with
  | none => rw [e] at w1; exact w1.elim
  | some p =>
    obtain ⟨d, ρ2⟩ := p
    rw [e] at w1
    dsimp only at w1
    obtain ⟨G2, R2, s2, r2⟩ := R1.toVal hx e
    cases e0 : insAt ρ2 i with
    | none => rw [e0] at w1; exact w1.elim
    | some q =>
      obtain ⟨C, ks, ds⟩ := q
      rw [e0] at w1
      dsimp only at w1
      split at w1
      · rename_i hC
        obtain ⟨s, hs, hco⟩ : ∃ s, ρ2[i]? = some s ∧ s.co = some (.ins C ks ds) := by
          unfold insAt at e0
          split at e0
          · rename_i e; cases e0; exact ⟨_, e, rfl⟩
          · rename_i e; cases e0; exact ⟨_, e, rfl⟩
          · cases e0
        obtain ⟨b, h1, h2, dx, fs, h3, h4, h5⟩ := R2.holder hs hco
        obtain ⟨p1, p2⟩ := putF_rep (f := f) r2 h4 h5
        refine ⟨_, h1, b, C, dx, fs, rfl, h3, (hc C hC.1).1, (hc C hC.1).2, by rw [← h4, List.length_map] at hC; exact hC.2, ?_⟩
        rcases co_cases hco with rfl | rfl
        · have R3 := R2.mut hs (s' := .own (.ins C (putFD f d ks ds).1 (putFD f d ks ds).2)) rfl h1 (u := .ins C dx (putF f v fs)) ⟨dx, _, upd_same, p1, p2⟩
          have e : setIns ρ2 i (.ins C (putFD f d ks ds).1 (putFD f d ks ds).2) = ρ2.set i (.own (.ins C (putFD f d ks ds).1 (putFD f d ks ds).2)) := by
            unfold setIns
            rw [hs]
          rw [e] at w1
          exact w1 _ _ _ R3
        · have R3 := R2.mut hs (s' := .bor (.ins C (putFD f d ks ds).1 (putFD f d ks ds).2)) rfl h1 (u := .ins C dx (putF f v fs)) ⟨dx, _, upd_same, p1, p2⟩
          have e : setIns ρ2 i (.ins C (putFD f d ks ds).1 (putFD f d ks ds).2) = ρ2.set i (.bor (.ins C (putFD f d ks ds).1 (putFD f d ks ds).2)) := by
            unfold setIns
            rw [hs]
          rw [e] at w1
          exact w1 _ _ _ R3
      · exact w1.elim
def newAt (x : X) : Bool := match x with
  | .new _ => true
  | _ => false
/-- values one beside the other, new ones among them -/
inductive RepXn (K : Fg) (F : Fm) (G H : Hp) (σ : L2.St) (ρ : En) : List V → List X → Prop
  | nil : RepXn K F G H σ ρ [] []
  | cons {v : V} {vs : List V} {x : X} {xs : List X} : RepX K F G H σ ρ v x → (newAt x = true → ∀ (j : Nat) (y : X), xs[j]? = some y → newAt y = true → vs[j]? ≠ some v) → RepXn K F G H σ ρ vs xs → RepXn K F G H σ ρ (v :: vs) (x :: xs)
theorem RepXn.get : ∀ {vs : List V} {xs : List X} {j : Nat} {y : X}, RepXn K F G H σ ρ vs xs → xs[j]? = some y → ∃ v, vs[j]? = some v ∧ RepX K F G H σ ρ v y
  | _, _, _, _, .nil, e => by simp at e
  | _, _, 0, _, .cons h _ _, e => by simp at e; subst e; exact ⟨_, rfl, h⟩
  | _, _, j + 1, _, .cons _ _ r, e => by
    obtain ⟨v, h1, h2⟩ := r.get (j := j) (by simpa using e)
    exact ⟨v, by simpa using h1, h2⟩
abbrev LN (K : Fg) (E : XK) (t : TA) (T : En → Res (List X)) : Prop := LG K E (RepXn K) t T
def nCons (A : En → Res X) (T : En → Res (List X)) : En → Res (List X) := fun ρ => (A ρ).bind fun a ρ1 => match a with
  | .own j => match toVal ρ1 (.own j) with
    | some (d, ρ2) => (T ρ2).bind fun as ρ3 => .ok (.val d :: as) ρ3
    | none => .stuck
  | a => (T ρ1).bind fun as ρ2 => .ok (a :: as) ρ2
theorem N_nil : LN K E tNil aNil := fun F G H σ ρ Q R w => w [] G H R (Same.refl G) .nil
theorem RepXn.unhold {a : Addr} {o : HO} (h0 : F.H0 a = none) : ∀ {vs : List V} {xs : List X}, RepXn K (F.hold a o) G H σ ρ vs xs → RepXn K F G H σ ρ vs xs
  | _, _, .nil => .nil
  | _, _, .cons h n r => .cons (h.unhold h0) n (r.unhold h0)
theorem N_cons (ha : LE K E ta A) (ht : LN K E t T) : LN K E (tCons ta t) (nCons A T) := by
  refine LG.bind (k := fun x σ H (Q : List V → Hp → Prop) => t σ H fun xs H2 => Q (x :: xs) H2) ha fun F G H σ ρ x a Q R hx w => ?_
  cases a with
  | val d =>
    exact ht F G H σ ρ _ R (w.bind fun ys b G2 H2 ρ2 R2 s2 hy w2 => w2 _ G2 H2 R2 (Same.refl G2) (.cons (Rep.mono s2 hx) (fun z => by cases z) hy))
  | own i =>
    have w' : Wants K E (RepXn K) F G σ Q (match toVal ρ (.own i) with
      | some (d, ρ2) => (T ρ2).bind fun as ρ3 => .ok (.val d :: as) ρ3
      | none => .stuck) := w
    cases e : toVal ρ (.own i) with
    | none => rw [e] at w'; exact w'.elim
    | some p =>
      obtain ⟨d, ρ2⟩ := p
      rw [e] at w'
      dsimp only at w'
      obtain ⟨G1, R1, s1, r1⟩ := R.toVal hx e
      exact ht F G1 H σ ρ2 _ R1 ((w'.mono s1).bind fun ys b G2 H2 ρ2 R2 s2 hy w2 => w2 _ G2 H2 R2 (Same.refl G2) (.cons (Rep.mono s2 r1) (fun z => by cases z) hy))
  | new o =>
    obtain ⟨p, rfl, h0, hg, ho, n⟩ := hx
    obtain ⟨u, hu⟩ := ho.ex
    have R1 := R.hold hu h0 hg n
    have hg0 : F.G0 p = none := none_of R.g0 hg
    have hl := R.noL h0
    have hm := R.noM h0
    have back : ∀ {G2 H2 : Hp} {ρ2 : En}, Rl K (F.hold p u) G2 H2 σ ρ2 → Rl K F G2 H2 σ ρ2 := fun R2 => R2.unhold h0 hl hm
    refine ht (F.hold p u) G H σ ρ _ R1 ?_
    -- what is wanted in the frame in which p is held
    have w' : Wants K E (RepXn K) F G σ Q ((T ρ).bind fun as ρ2 => .ok (.new o :: as) ρ2) := w
    cases e : T ρ with
    | ok b ρ2 =>
      rw [e] at w'
      intro ys G2 H2 R2 s2 hy
      have hH := R2.heldH hm
      refine w' _ G2 H2 (back R2) s2 (.cons ⟨p, rfl, h0, R2.heldG hg0, ho.mono s2 (fun x ex => by rw [hu] at ex; cases ex; exact hH), R2.heldN⟩ (fun _ j y hj hn => ?_) (hy.unhold h0))
      obtain ⟨v, h1, h2⟩ := hy.get hj
      cases y with
      | new o' =>
        obtain ⟨q, rfl, g0, _⟩ := h2
        rw [h1]
        intro z
        cases z
        rw [show (F.hold p u).H0 p = some u from upd_same] at g0
        cases g0
      | val d => cases hn
      | own i => cases hn
    | err x ρ2 =>
      rw [e] at w'
      exact fun c od G2 H2 R2 s2 hx => w' c od G2 H2 (back R2) s2 hx
    | stuck =>
      rw [e] at w'
      exact w'
@[simp] def puts : List Nat → List X → En → SR
  | [], [], ρ => .nx ρ
  | i :: is, .val d :: xs, ρ => if freeAt ρ i then puts is xs (ρ.set i (.val d)) else .stuck
  | i :: is, .new o :: xs, ρ => if freeAt ρ i then puts is xs (ρ.set i (.own o)) else .stuck
  | _, _, _ => .stuck
def setsV : L2.St → List Nat → List V → L2.St
  | σ, i :: is, v :: vs => setsV (σ.set i (some v)) is vs
  | σ, _, _ => σ
theorem RepXn.put {i : Nat} {v : V} {s : Slot} (hs : ∀ o, s = .own o → ∃ a, v = .ref a) (hv : ∀ o, s = .own o → True) (hl : i < ρ.length) (hl' : i < σ.length) : ∀ {vs : List V} {xs : List X}, RepXn K F G H σ ρ vs xs → (∀ o, s = .own o → ∀ (j : Nat) (y : X), xs[j]? = some y → newAt y = true → vs[j]? ≠ some v) → (∀ (j : Nat) (y : X), xs[j]? = some y → ∀ k, y ≠ .own k) → RepXn K F G H (σ.set i (some v)) (ρ.set i s) vs xs
  | _, _, .nil, _, _ => .nil
  | w :: vs, x :: xs, .cons h n r, q, no => by
    refine .cons ?_ n (r.put hs hv hl hl' (fun o e j y hj hn => q o e (j + 1) y (by simpa using hj) hn) (fun j y hj => no (j + 1) y (by simpa using hj)))
    cases x with
    | val d => exact h
    | own k => exact absurd rfl (no 0 _ rfl k)
    | new o =>
      obtain ⟨a, rfl, h0, hg, ho, nn⟩ := h
      refine ⟨a, rfl, h0, hg, ho, fun j u hj z => ?_⟩
      rcases getset hj with ⟨rfl, e, _⟩ | ⟨ne, hj⟩
      · rw [List.getElem?_set_self hl'] at z
        cases z
        exact q u e 0 _ rfl rfl rfl
      · rw [List.getElem?_set_ne ne] at z
        exact nn j u hj z
theorem puts_no {D : Ends} : ∀ {is : List Nat} {xs : List X} {ρ : En}, WS K E F D (puts is xs ρ) → ∀ (j : Nat) (y : X), xs[j]? = some y → ∀ k, y ≠ .own k
  | _, [], _, _ => fun j y hj => by simp at hj
  | [], _ :: _, _, w => by unfold puts at w; exact w.elim
  | _ :: _, .own _ :: _, _, w => by unfold puts at w; exact w.elim
  | i :: is, .val d :: xs, ρ, w => by
    unfold puts at w
    split at w
    · intro j y hj k e
      cases j with
      | zero => simp at hj; rw [← hj] at e; cases e
      | succ j => exact puts_no w j y (by simpa using hj) k e
    · exact w.elim
  | i :: is, .new o :: xs, ρ, w => by
    unfold puts at w
    split at w
    · intro j y hj k e
      cases j with
      | zero => simp at hj; rw [← hj] at e; cases e
      | succ j => exact puts_no w j y (by simpa using hj) k e
    · exact w.elim
theorem puts_run {D : Ends} : ∀ {is : List Nat} {vs : List V} {xs : List X} {σ : L2.St} {ρ : En}, Rl K F G H σ ρ → RepXn K F G H σ ρ vs xs → WS K E F D (puts is xs ρ) → D.nx (setsV σ is vs) H
  | [], [], [], σ, ρ, R, .nil, w => w σ G H R
  | [], _ :: _, _ :: _, σ, ρ, R, .cons .., w => by unfold puts at w; exact w.elim
  | _ :: _, [], [], σ, ρ, R, .nil, w => by unfold puts at w; exact w.elim
  | i :: is, v :: vs, .own k :: xs, σ, ρ, R, .cons .., w => by unfold puts at w; exact w.elim
  | i :: is, v :: vs, .val d :: xs, σ, ρ, R, .cons h n r, w => by
    unfold puts at w
    split at w
    · rename_i hf
      have hl := freeAt_lt hf
      show D.nx (setsV (σ.set i (some v)) is vs) H
      exact puts_run (R.put (s := .val d) hf ⟨v, rfl, h⟩ rfl fun o e => nomatch e) (r.put (s := .val d) (fun o e => nomatch e) (fun o e => trivial) hl (R.lt hl) (fun o e => nomatch e) (puts_no w)) w
    · exact w.elim
  | i :: is, v :: vs, .new o :: xs, σ, ρ, R, .cons h n r, w => by
    unfold puts at w
    split at w
    · rename_i hf
      have hl := freeAt_lt hf
      obtain ⟨a, rfl, h0, hg, ho, nn⟩ := h
      show D.nx (setsV (σ.set i (some (V.ref a))) is vs) H
      exact puts_run (R.put (s := .own o) hf ⟨a, rfl, h0, hg, ho⟩ rfl fun o e j o' hj hr => nn j o' hr) (r.put (s := .own o) (fun o e => ⟨a, rfl⟩) (fun o e => trivial) hl (R.lt hl) (fun _ _ j y hj hn => n rfl j y hj hn) (puts_no w)) w
    · exact w.elim
def sMulti (is : List Nat) (T : En → Res (List X)) : En → SR := fun ρ => (T ρ).sb fun xs ρ1 => puts is xs ρ1
theorem puts_len {D : Ends} : ∀ {is : List Nat} {xs : List X} {ρ : En}, WS K E F D (puts is xs ρ) → xs.length = is.length
  | [], [], _, _ => rfl
  | [], _ :: _, _, w => by unfold puts at w; exact w.elim
  | _ :: _, [], _, w => by unfold puts at w; exact w.elim
  | _ :: _, .own _ :: _, _, w => by unfold puts at w; exact w.elim
  | i :: is, .val d :: xs, ρ, w => by
    unfold puts at w
    split at w
    · rw [List.length_cons, List.length_cons, puts_len w]
    · exact w.elim
  | i :: is, .new d :: xs, ρ, w => by
    unfold puts at w
    split at w
    · rw [List.length_cons, List.length_cons, puts_len w]
    · exact w.elim
theorem RepXn.len : ∀ {vs : List V} {xs : List X}, RepXn K F G H σ ρ vs xs → vs.length = xs.length
  | _, _, .nil => rfl
  | _, _, .cons _ _ r => by rw [List.length_cons, List.length_cons, r.len]
theorem len2 {α : Type} {l : List α} (h : l.length = 2) : ∃ a b, l = [a, b] := by
  match l, h with
  | [a, b], _ => exact ⟨a, b, rfl⟩
theorem len3 {α : Type} {l : List α} (h : l.length = 3) : ∃ a b c, l = [a, b, c] := by
  match l, h with
  | [a, b, c], _ => exact ⟨a, b, c, rfl⟩
theorem L_par {i j : Nat} (ht : LN K E t T) : LS K E (tPar i j t) (sMulti [i, j] T) := by
  intro F G H σ ρ D R w
  refine ht F G H σ ρ _ R (w.sb fun vs xs G1 H1 ρ1 R1 s1 hx w1 => ?_)
  obtain ⟨v, u, rfl⟩ := len2 (hx.len.trans (puts_len w1))
  exact ⟨v, u, rfl, puts_run R1 hx w1⟩
theorem L_par3 {i j k : Nat} (ht : LN K E t T) : LS K E (tPar3 i j k t) (sMulti [i, j, k] T) := by
  intro F G H σ ρ D R w
  refine ht F G H σ ρ _ R (w.sb fun vs xs G1 H1 ρ1 R1 s1 hx w1 => ?_)
  obtain ⟨v, u, z, rfl⟩ := len3 (hx.len.trans (puts_len w1))
  exact ⟨v, u, z, rfl, puts_run R1 hx w1⟩
def gNames : List Nat → TGs
  | [] => gNil
  | i :: is => gCons (gName i) (gNames is)
theorem gNames_run {Q : L2.St → Hp → Prop} : ∀ {is : List Nat} {vs : List V} {σ : L2.St}, vs.length = is.length → Q (setsV σ is vs) H → gNames is vs σ H Q
  | [], [], σ, _, q => ⟨rfl, q⟩
  | i :: is, v :: vs, σ, h, q => ⟨v, vs, rfl, gNames_run (by simpa using h) q⟩
theorem L_tupN {is : List Nat} {n : Nat} (ht : LN K E t T) (hn : is.length = n) (hz : n ≤ sizeLine) : LS K E (tAsg (tTup t) (gTup K n (gNames is))) (sMulti is T) := by
  intro F G H σ ρ D R w
  refine ht F G H σ ρ _ R (w.sb fun vs xs G1 H1 ρ1 R1 s1 hx w1 => ?_)
  have hl := hx.len.trans (puts_len w1)
  refine ⟨by rw [hl, hn]; exact hz, fun p np => ⟨p, vs, rfl, .inl (.inl upd_same), by rw [hl, hn], gNames_run hl ?_⟩⟩
  have R2 := R1.laid (o := .tup vs) np
  refine puts_run R2 ?_ w1
  -- what was told stands
  have mv : ∀ {vs : List V} {xs : List X}, RepXn K F G1 H1 σ ρ1 vs xs → ∀ o, RepXn K F G1 (upd H1 p o) σ ρ1 vs xs := by
    intro vs xs h o
    induction h with
    | nil => exact .nil
    | @cons v vs x xs h n r ih =>
      refine .cons ?_ n ih
      cases x with
      | val d => exact h
      | own k => exact h
      | new u =>
        obtain ⟨a, rfl, h0, hg, ho, nn⟩ := h
        refine ⟨a, rfl, h0, hg, ho.mono (Same.refl G1) fun y e => ?_, nn⟩
        rw [upd_ne (ne_of_none e np)]
        exact e
  exact mv hx _
end
end DL
set_option Elab.async false
set_option linter.all false
set_option maxRecDepth 100000
set_option maxHeartbeats 2000000
namespace DL
open PySem PySem.Spec PyProof.Rows L2 DD
section
variable {K : Fg} {E : XK} {F : Fm} {G G' H H' : Hp} {σ σ' : L2.St} {ρ ρ' : En} {ta tb : TE} {A B : En → Res X} {t : TA} {T : En → Res (List X)}
/-- what an iterator hands on, turn by turn, while P holds of the heap -/
structure Its (K : Fg) (P : Hp → Prop) (G1 : Hp) (J : It) (ds : List D) : Prop where
  go : ∀ G H, Same G1 G → Same G H → P H → ∀ i, i < ds.length → J.go i H
  stop : ∀ G H, Same G1 G → Same G H → P H → ∀ i, ds.length ≤ i → J.stop i H
  yld : ∀ F G H σ ρ, Rl K F G H σ ρ → Same G1 G → P H → ∀ i x H', i < ds.length → J.yld i H x H' → ∃ G', Rl K F G' H' σ ρ ∧ Same G G' ∧ (∀ u, Same H u → Same H H' ∨ True) ∧ Same H H' ∧ ∃ d, ds[i]? = some d ∧ Rep K G' x d
abbrev LI (K : Fg) (E : XK) (wi : TI) (S : En → Res (List D)) : Prop := LG K E (fun _ G _ _ _ J ds => Its K (fun _ => True) G J ds) wi S
theorem its_list {G1 : Hp} {a : Addr} {vs : List V} {ds : List D} {P : Hp → Prop} (h : ∀ G H, Same G1 G → Same G H → P H → SqL K H a vs) (r : RepA K G1 vs ds) : Its K P G1 (Itl K a) ds where
  go := fun G H e k p i hi => by
    have hi' : i < vs.length := by rw [r.len]; exact hi
    exact ⟨vs, _, h G H e k p, List.getElem?_eq_getElem hi'⟩
  stop := fun G H e k p i hi => ⟨vs, h G H e k p, by rw [r.len]; exact hi⟩
  yld := fun F G H σ ρ R e p i x H' hi hy => by
    obtain ⟨rfl, hy⟩ := hy
    have hv := hy vs (h G H' e R.gh p)
    obtain ⟨d, h1, h2⟩ := r.get' hv
    exact ⟨G, R, Same.refl G, fun _ _ => .inr trivial, Same.refl _, d, h1, h2.mono e⟩
theorem its_tup {a : Addr} {vs : List V} {ds : List D} {G1 : Hp} (h : SqT K G1 a vs) (r : RepA K G1 vs ds) : Its K (fun _ => True) G1 (Itt K a) ds where
  go := fun G H e k p i hi => by
    have hi' : i < vs.length := by rw [r.len]; exact hi
    exact ⟨vs, _, smTup (e.trans k) h, List.getElem?_eq_getElem hi'⟩
  stop := fun G H e k p i hi => ⟨vs, smTup (e.trans k) h, by rw [r.len]; exact hi⟩
  yld := fun F G H σ ρ R e p i x H' hi hy => by
    obtain ⟨rfl, hy⟩ := hy
    have hv := hy vs (smTup (e.trans R.gh) h)
    obtain ⟨d, h1, h2⟩ := r.get' hv
    exact ⟨G, R, Same.refl G, fun _ _ => .inr trivial, Same.refl _, d, h1, h2.mono e⟩
theorem its_rng {lo : Int} {n : Nat} {G1 : Hp} : Its K (fun _ => True) G1 (Itr lo n) ((List.range n).map fun i => D.int (lo + (i : Nat))) where
  go := fun G H e k p i hi => by
    rw [List.length_map, List.length_range] at hi
    exact hi
  stop := fun G H e k p i hi => by
    rw [List.length_map, List.length_range] at hi
    exact hi
  yld := fun F G H σ ρ R e p i x H' hi hy => by
    obtain ⟨rfl, rfl⟩ := hy
    rw [List.length_map, List.length_range] at hi
    refine ⟨G, R, Same.refl G, fun _ _ => .inr trivial, Same.refl _, D.int (lo + i), ?_, .int _⟩
    rw [List.getElem?_map, List.getElem?_range hi]
    rfl
/-- a list or a tuple, frozen -/
def iSeq (K : Fg) (tl : TE) : TI := fun σ H R => tl σ H fun x H1 => ∃ a, x = .ref a ∧ (((∃ xs, SqL K H1 a xs) ∧ R (Itl K a) H1) ∨ ((∃ xs, SqT K H1 a xs) ∧ R (Itt K a) H1))
theorem pi_seq {X : Cx} {K : Fg} {tg l : Expr} {tl : TE} (hl : PE X l tl) (h : X.K = K := by rfl) : PI X tg l (iSeq K tl) := by
  subst h
  refine ⟨fun pins s σ H R I h => ?_⟩
  refine thn (hl.run pins s σ H _ I h) fun v s1 ⟨x, H1, I1, r1, q1⟩ => ?_
  obtain ⟨a, e, q⟩ := q1
  subst e
  rcases q with ⟨⟨xs, hq⟩, q⟩ | ⟨⟨xs, hq⟩, q⟩
  · cases r1
    obtain ⟨its, rv, p, hz⟩ := I1.list hq
    refine wpAny_pyIter_list p.isList ?_
    refine ⟨s1.heap.objs.size, [s1.heap.objs.size], _, _, H1, rfl, I1.kept (t' := s1.toks) fun b o e => Heap.get?_push_of_some _ e, turn_list a _, ⟨_, Heap.get?_push_size _ rfl, rfl, rfl⟩, fun b hb => ?_, q⟩
    have e : b = s1.heap.objs.size := by simpa using hb
    subst e
    exact I1.fpOk (Nat.le_refl _) (I1.hok.fresh (Nat.le_refl _))
  · cases r1
    obtain ⟨its, rv, p, hz⟩ := I1.tuple hq
    refine wpAny_pyIter_tuple (show s1.heap.IsTuple a its.toArray from p) ?_
    refine ⟨s1.heap.objs.size, [s1.heap.objs.size], _, _, H1, rfl, I1.kept (t' := s1.toks) fun b o e => Heap.get?_push_of_some _ e, turn_tuple a _, ⟨_, Heap.get?_push_size _ rfl, rfl, rfl⟩, fun b hb => ?_, q⟩
    have e : b = s1.heap.objs.size := by simpa using hb
    subst e
    exact I1.fpOk (Nat.le_refl _) (I1.hok.fresh (Nat.le_refl _))
def dRng1 (A : En → Res X) : En → Res (List D) := fun ρ => (A ρ).bind fun a ρ1 => match asI ρ1 a with
  | some j => if -(2 ^ 62) ≤ j ∧ j < 2 ^ 62 then .ok ((List.range j.toNat).map fun i => D.int (0 + (i : Nat))) ρ1 else .stuck
  | none => .stuck
def dRng2 (A B : En → Res X) : En → Res (List D) := fun ρ => (A ρ).bind fun a ρ1 => (B ρ1).bind fun b ρ2 => match asI ρ2 a.settle, asI ρ2 b with
  | some i, some j => if -(2 ^ 62) ≤ i ∧ i < 2 ^ 62 ∧ -(2 ^ 62) ≤ j ∧ j < 2 ^ 62 then .ok ((List.range (j - i).toNat).map fun n => D.int (i + (n : Nat))) ρ2 else .stuck
  | _, _ => .stuck
theorem I_rng1 (ha : LE K E ta A) : LI K E (iRng1 (tCons ta tNil)) (dRng1 A) := by
  intro F G H σ ρ Q R w
  refine ha F G H σ ρ _ R (Wants.bind w fun x a G1 H1 ρ1 R1 s1 hx w1 => ?_)
  cases e : asI ρ1 a with
  | none => rw [e] at w1; exact w1.elim
  | some j =>
    rw [e] at w1
    dsimp only at w1
    split at w1
    · rename_i hc
      exact ⟨j, by rw [R1.asI hx e], hc.1, hc.2, w1 _ G1 H1 R1 (Same.refl G1) its_rng⟩
    · exact w1.elim
theorem I_rng2 (ha : LE K E ta A) (hb : LE K E tb B) : LI K E (iRng2 (tCons ta (tCons tb tNil))) (dRng2 A B) := by
  intro F G H σ ρ Q R w
  refine ha F G H σ ρ _ R (Wants.bind w fun x a G0 H0 ρ0 R0 s0 hx w0 => ?_)
  obtain ⟨G1, R1, s1, hx1⟩ := R0.settle hx
  refine hb F G1 H0 σ ρ0 _ R1 (Wants.bind (w0.mono s1) fun y b G2 H2 ρ2 R2 s2 hy w2 => ?_)
  cases e1 : asI ρ2 a.settle with
  | none => rw [e1] at w2; exact w2.elim
  | some i =>
    cases e2 : asI ρ2 b with
    | none => rw [e1, e2] at w2; exact w2.elim
    | some j =>
      rw [e1, e2] at w2
      dsimp only at w2
      split at w2
      · rename_i hc
        exact ⟨i, j, by rw [R2.asI (hx1.keep settle_no s2) e1, R2.asI hy e2], hc, w2 _ G2 H2 R2 (Same.refl G2) its_rng⟩
      · exact w2.elim
def forL (U : Tg) (B : En → SR) : List D → En → SR
  | [], ρ => .nx ρ
  | d :: ds, ρ => match U d ρ with
    | none => .stuck
    | some ρ1 => match B ρ1 with
      | .nx ρ2 => forL U B ds ρ2
      | .ct ρ2 => forL U B ds ρ2
      | .bk ρ2 => .nx ρ2
      | r => r
theorem WS.back {D : Ends} (R : Rl K F G H σ ρ) : ∀ {r : SR}, WS K E F D r → WS K E (F.at G) D r
  | .nx ρ', w => fun σ' G' H' R' => w σ' G' H' (R.back R')
  | .bk ρ', w => fun σ' G' H' R' => w σ' G' H' (R.back R')
  | .ct ρ', w => fun σ' G' H' R' => w σ' G' H' (R.back R')
  | .rt x ρ', w => fun v σ' G' H' R' hx => w v σ' G' H' (R.back R') hx.at
  | .err x ρ', w => fun c od σ' G' H' R' hx => w c od σ' G' H' (R.back R') hx
  | .stuck, w => w
theorem for_core {u : TS} {U : Tg} {B : En → SR} {g : TG} {vs : List Nat} {D : Ends} {J : It} {ds : List DL.D} {P : Hp → Prop} (hb : LS K E u B) (hg : LTg K vs g U) (R : Rl K F G H σ ρ) (hI : Its K P G J ds)
    (hP : ∀ G' H' σ' ρ', Rl K (F.at G) G' H' σ' ρ' → P H') (w : WS K E F D (forL U B ds ρ)) :
    ∃ W : Nat → Nat → L2.St → Hp → Prop, (∃ m, W 0 m σ H) ∧ ∀ i m σ H, W i m σ H →
      (J.stop i H ∧ D.nx σ H) ∨ (J.go i H ∧ ∃ N : L2.St → Hp → Prop, (∀ σ' H', N σ' H' → ∃ m', m' < m ∧ W (i + 1) m' σ' H') ∧ ∀ x H', J.yld i H x H' → g x σ H' fun σ2 H2 => u { D with nx := N, ct := N, bk := D.nx } σ2 H2) := by
  refine ⟨fun i m σ' H' => ∃ G' ρ', Rl K (F.at G) G' H' σ' ρ' ∧ i + m = ds.length ∧ WS K E (F.at G) D (forL U B (ds.drop i) ρ'), ⟨ds.length, G, ρ, R.at, by omega, w.back R⟩, ?_⟩
  rintro i m σ' H' ⟨G', ρ', R', hm, w'⟩
  cases m with
  | zero =>
    rw [List.drop_eq_nil_of_le (by omega)] at w'
    exact .inl ⟨hI.stop G' H' R'.g0 R'.gh (hP _ _ _ _ R') i (by omega), w' σ' G' H' R'⟩
  | succ m =>
    have hi : i < ds.length := by omega
    rw [List.drop_eq_getElem_cons hi] at w'
    refine .inr ⟨hI.go G' H' R'.g0 R'.gh (hP _ _ _ _ R') i hi, fun σ2 H2 => ∃ G2 ρ2, Rl K (F.at G) G2 H2 σ2 ρ2 ∧ WS K E (F.at G) D (forL U B (ds.drop (i + 1)) ρ2), fun σ2 H2 ⟨G2, ρ2, R2, w2⟩ => ⟨m, by omega, G2, ρ2, R2, by omega, w2⟩, fun x H3 hy => ?_⟩
    obtain ⟨G3, R3, s3, _, k3, d, hd, hr⟩ := hI.yld _ _ _ _ _ R' R'.g0 (hP _ _ _ _ R') i x H3 hi hy
    rw [List.getElem?_eq_getElem hi] at hd
    cases hd
    unfold forL at w'
    cases e : U ds[i] ρ' with
    | none => rw [e] at w'; exact w'.elim
    | some ρ1 =>
      rw [e] at w'
      dsimp only at w'
      refine hg _ _ _ _ _ ρ1 x _ _ R3 hr e fun σ4 R4 _ => hb _ _ _ _ ρ1 _ R4 ?_
      cases e2 : B ρ1 with
      | nx ρ2 => rw [e2] at w'; exact fun σ5 G5 H5 R5 => ⟨G5, ρ2, R5, w'⟩
      | ct ρ2 => rw [e2] at w'; exact fun σ5 G5 H5 R5 => ⟨G5, ρ2, R5, w'⟩
      | bk ρ2 => rw [e2] at w'; exact w'
      | rt y ρ2 => rw [e2] at w'; exact w'
      | err y ρ2 => rw [e2] at w'; exact w'
      | stuck => rw [e2] at w'; exact w'
def sFor (S : En → Res (List D)) (U : Tg) (B : En → SR) : En → SR := fun ρ => (S ρ).sb fun ds ρ1 => forL U B ds ρ1
theorem L_for {wi : TI} {S : En → Res (List D)} {u : TS} {U : Tg} {B : En → SR} {g : TG} {vs : List Nat} (hi : LI K E wi S) (hg : LTg K vs g U) (hb : LS K E u B) : LS K E (tFor wi g u) (sFor S U B) := by
  intro F G H σ ρ D R w
  exact hi F G H σ ρ _ R (w.sb fun J ds G1 H1 ρ1 R1 s1 hI w1 => for_core hb hg R1 hI (fun _ _ _ _ _ => trivial) w1)
@[simp] def unlockE (ρ : En) (i : Nat) : En := match ρ[i]? with
  | some (.lck o) => ρ.set i (.own o)
  | _ => ρ
@[simp] def SR.unlock (i : Nat) : SR → SR
  | .nx ρ => .nx (unlockE ρ i)
  | .bk ρ => .bk (unlockE ρ i)
  | .ct ρ => .ct (unlockE ρ i)
  | .rt x ρ => .rt x (unlockE ρ i)
  | .err x ρ => .err x (unlockE ρ i)
  | .stuck => .stuck
def Fm.lock (F : Fm) (i : Nat) (a : Addr) (o : HO) : Fm := { F with H0 := upd F.H0 a o, L := fun j => if j = i then some a else F.L j }
theorem Rl.lock {i : Nat} {o : O} {u : HO} {a : Addr} (R : Rl K F G H σ ρ) (h : ρ[i]? = some (.own o)) (ha : σ[i]? = some (some (.ref a))) (hu : H a = some u) : Rl K (F.lock i a u) G H σ (ρ.set i (.lck o)) := by
  obtain ⟨b, h1, h0, hg, ho⟩ := R.own h
  rw [ha] at h1
  cases h1
  have hil : i < ρ.length := (List.getElem?_eq_some_iff.mp h).1
  have n : ∀ (j : Nat) (w : O), (ρ.set i (.lck o))[j]? = some (.own w) → σ[j]? ≠ some (some (.ref a)) := fun j w hj z => by
    rcases getset hj with ⟨_, e, _⟩ | ⟨ne, hj⟩
    · cases e
    · exact ne (R.di i j _ _ a h hj ha z)
  have hf : freeAt ρ i = true := by unfold freeAt; rw [h]; rfl
  have eσ : σ.set i (some (.ref a)) = σ := by
    apply List.ext_getElem?
    intro j
    by_cases e : i = j
    · subst e
      rw [List.getElem?_set_self (R.lt hil), ha]
    · rw [List.getElem?_set_ne e]
  have R1 : Rl K F G H σ (ρ.set i .none) := by
    have := R.forget (i := i) (x := some (.ref a)) hf
    rw [eσ] at this
    exact this
  have n1 : ∀ (j : Nat) (w : O), (ρ.set i Slot.none)[j]? = some (.own w) → σ[j]? ≠ some (some (.ref a)) := fun j w hj z => by
    rcases getset hj with ⟨_, e, _⟩ | ⟨ne, hj⟩
    · cases e
    · exact ne (R.di i j _ _ a h hj ha z)
  have R2 := R1.hold hu h0 hg n1
  refine ⟨R2.gh, R2.g0, R2.gn, R2.hk, fun j b hb => ?_, fun j b hb => ?_, fun j s hs => ?_, fun j k w w' b h1 h2 h3 h4 => ?_, R2.mi⟩
  · obtain ⟨g1, g2, w, g3⟩ := R2.hm j b hb
    refine ⟨g1, g2, w, ?_⟩
    by_cases q : i = j
    · subst q
      rw [List.getElem?_set_self hil] at g3
      cases g3
    · rw [List.getElem?_set_ne q] at g3 ⊢
      exact g3
  · by_cases q : j = i
    · subst q
      exact ⟨o, List.getElem?_set_self hil⟩
    · have hb' : F.L j = some b := by
        rw [show (F.lock i a u).L j = if j = i then some a else F.L j from rfl, if_neg q] at hb
        exact hb
      obtain ⟨w, g3⟩ := R.hl j b hb'
      exact ⟨w, by rw [List.getElem?_set_ne (Ne.symm q)]; exact g3⟩
  · rcases getset hs with ⟨rfl, rfl, _⟩ | ⟨ne, hs⟩
    · refine ⟨_, ha, a, u, rfl, ?_, hg, upd_same, R.noM h0, ho⟩
      show (if i = i then some a else F.L i) = some a
      rw [if_pos rfl]
    · obtain ⟨x, g1, g2⟩ := R2.sl j s (by rw [List.getElem?_set_ne ne]; exact hs)
      refine ⟨x, g1, ?_⟩
      cases s with
      | none => trivial
      | val d => exact g2
      | own w => exact g2
      | bor w => exact g2
      | lck w =>
        obtain ⟨b, u', rfl, e2, e3, e5, e6, e4⟩ := g2
        refine ⟨b, u', rfl, ?_, e3, e5, e6, e4⟩
        show (if j = i then some a else F.L j) = some b
        rw [if_neg (Ne.symm ne)]
        exact e2
  · rcases getset h1 with ⟨_, e, _⟩ | ⟨n1, h1'⟩
    · cases e
    · rcases getset h2 with ⟨_, e, _⟩ | ⟨n2, h2'⟩
      · cases e
      · exact R.di j k w w' b h1' h2' h3 h4
theorem Rl.unlock {i : Nat} {u : HO} {a : Addr} (R : Rl K (F.lock i a u) G H σ ρ) (h0 : F.H0 a = none) (hL : F.L i = none) (hl : ∀ j, F.L j ≠ some a) (hm : ∀ j, F.M j ≠ some a) : Rl K F G H σ (unlockE ρ i) ∧ ∃ o, ρ[i]? = some (.lck o) := by
  obtain ⟨o, ho⟩ := R.hl i a (by show (if i = i then some a else F.L i) = some a; rw [if_pos rfl])
  refine ⟨?_, o, ho⟩
  have hil : i < ρ.length := (List.getElem?_eq_some_iff.mp ho).1
  have e : unlockE ρ i = ρ.set i (.own o) := by unfold unlockE; rw [ho]
  rw [e]
  obtain ⟨x, hx, b, u', rfl, hb, hg, hu', hM, hO⟩ := R.sl i _ ho
  have hba : b = a := by
    have : (if i = i then some a else F.L i) = some b := hb
    rw [if_pos rfl] at this
    exact (Option.some.inj this).symm
  subst hba
  have up : ∀ c, c ≠ b → (F.lock i b u).H0 c = F.H0 c := fun c q => upd_ne q
  have nown : ∀ (j : Nat) (w : O), ρ[j]? = some (.own w) → σ[j]? ≠ some (some (.ref b)) := fun j w hj z => by
    obtain ⟨c, g1, g2, _⟩ := R.own hj
    rw [g1] at z
    cases z
    rw [show (F.lock i b u).H0 b = some u from upd_same] at g2
    cases g2
  refine ⟨R.gh, R.g0, fun c w hc hc' => ?_, fun c w hc hc' => R.hk c w (by rw [up c (ne_of_none hc h0)]; exact hc) hc', fun j c hc => ?_, fun j c hc => ?_, fun j s hs => ?_, fun j k w w' c h1 h2 h3 h4 => ?_, R.mi⟩
  · by_cases q : c = b
    · rw [q]; exact h0
    · have := R.gn c w hc hc'
      rw [up c q] at this
      exact this
  · obtain ⟨g1, g2, w, g3⟩ := R.hm j c hc
    refine ⟨g1, ?_, w, ?_⟩
    · rw [up c (fun q => hm j (by rw [← q]; exact hc))] at g2
      exact g2
    · rw [List.getElem?_set_ne (fun q => by rw [← q, ho] at g3; cases g3)]
      exact g3
  · have ne : j ≠ i := fun q => by rw [q, hL] at hc; cases hc
    obtain ⟨w, g⟩ := R.hl j c (by show (if j = i then some b else F.L j) = some c; rw [if_neg ne]; exact hc)
    exact ⟨w, by rw [List.getElem?_set_ne (Ne.symm ne)]; exact g⟩
  · rcases getset hs with ⟨rfl, rfl, _⟩ | ⟨ne, hs⟩
    · exact ⟨_, hx, b, rfl, h0, hg, hO⟩
    · obtain ⟨x, g1, g2⟩ := R.sl j s hs
      refine ⟨x, g1, ?_⟩
      cases s with
      | none => trivial
      | val d => exact g2
      | own w =>
        obtain ⟨c, rfl, e2, e3, e4⟩ := g2
        refine ⟨c, rfl, ?_, e3, e4⟩
        rw [up c (fun q => nown j w hs (by rw [g1, q]))] at e2
        exact e2
      | bor w => exact g2
      | lck w =>
        obtain ⟨c, y, rfl, e2, e3, e5, e6, e4⟩ := g2
        have e2' : F.L j = some c := by
          have : (if j = i then some b else F.L j) = some c := e2
          rw [if_neg (Ne.symm ne)] at this
          exact this
        refine ⟨c, y, rfl, e2', e3, ?_, e6, e4⟩
        rw [up c (fun q => hl j (by rw [← q]; exact e2'))] at e5
        exact e5
  · rcases getset h1 with ⟨rfl, _, _⟩ | ⟨n1, h1'⟩
    · rcases getset h2 with ⟨rfl, _, _⟩ | ⟨n2, h2'⟩
      · rfl
      · rw [hx] at h3
        cases h3
        exact absurd h4 (nown k w' h2')
    · rcases getset h2 with ⟨rfl, _, _⟩ | ⟨n2, h2'⟩
      · rw [hx] at h4
        cases h4
        exact absurd h3 (nown j w h1')
      · exact R.di j k w w' c h1' h2' h3 h4
theorem RepX.unlock {i : Nat} {u : HO} {a : Addr} {v : V} {x : X} (h : RepX K (F.lock i a u) G H σ ρ v x) (h0 : F.H0 a = none) (hx : ∀ o, ρ[i]? = some (.lck o) → ∃ b, σ[i]? = some (some (.ref b)) ∧ b = a) (ho : ∃ o, ρ[i]? = some (.lck o)) : RepX K F G H σ (unlockE ρ i) v x := by
  cases x with
  | val d => exact h
  | own j => exact h
  | new o =>
    obtain ⟨b, rfl, e2, e3, e4, e5⟩ := h
    have q : b ≠ a := fun q => by
      rw [q, show (F.lock i a u).H0 a = some u from upd_same] at e2
      cases e2
    refine ⟨b, rfl, ?_, e3, e4, fun j w hj z => ?_⟩
    · rw [show (F.lock i a u).H0 b = F.H0 b from upd_ne q] at e2
      exact e2
    · obtain ⟨o', ho'⟩ := ho
      have : unlockE ρ i = ρ.set i (.own o') := by unfold unlockE; rw [ho']
      rw [this] at hj
      rcases getset hj with ⟨rfl, _, _⟩ | ⟨ne, hj⟩
      · obtain ⟨c, g1, g2⟩ := hx o' ho'
        rw [g1] at z
        cases z
        exact q g2
      · exact e5 j w hj z
@[simp] def seqOf (A : En → Res X) : En → Res (Option Nat × List D) := fun ρ => (A ρ).bind fun a ρ1 => match a with
  | .val d => lift (d.items.map fun ds => (none, ds)) ρ1
  | .new o => lift (o.d.items.map fun ds => (none, ds)) ρ1
  | .own i => match ρ1[i]? with
    | some (.val d) => lift (d.items.map fun ds => (none, ds)) ρ1
    | some (.own (.lst ds)) => .ok (some i, ds) (ρ1.set i (.lck (.lst ds)))
    | _ => .stuck
def sForS (A : En → Res X) (U : Tg) (B : En → SR) : En → SR := fun ρ => (seqOf A ρ).sb fun p ρ1 => match p.1 with
  | none => forL U B p.2 ρ1
  | some i => (forL U B p.2 ρ1).unlock i
theorem its_rep {v : V} {d : D} {ds : List D} (R : Rl K F G H σ ρ) (h : Rep K G v d) (e : d.items = some ds) : ∃ a, v = .ref a ∧ (((∃ xs, SqL K H a xs) ∧ Its K (fun _ => True) G (Itl K a) ds) ∨ ((∃ xs, SqT K H a xs) ∧ Its K (fun _ => True) G (Itt K a) ds)) := by
  cases h with
  | tup g r => cases e; exact ⟨_, rfl, .inr ⟨⟨_, smTup R.gh g⟩, its_tup g r⟩⟩
  | lst g r =>
    cases e
    exact ⟨_, rfl, .inl ⟨⟨_, .inl (.inl (R.gh _ _ g))⟩, its_list (fun G' H' e k _ => .inl (.inl (k _ _ (e _ _ g)))) r⟩⟩
  | scr g r =>
    cases e
    exact ⟨_, rfl, .inl ⟨⟨_, smLst R.gh g⟩, its_list (fun G' H' e k _ => smLst (e.trans k) g) r⟩⟩
  | _ => cases e
theorem WS.unlock {i : Nat} {u : HO} {a : Addr} {D : Ends} (h0 : F.H0 a = none) (hL : F.L i = none) (hl : ∀ j, F.L j ≠ some a) (hm : ∀ j, F.M j ≠ some a) : ∀ {r : SR}, WS K E F D (r.unlock i) → WS K E (F.lock i a u) D r
  | .nx ρ', w => fun σ' G' H' R' => w σ' G' H' (R'.unlock h0 hL hl hm).1
  | .bk ρ', w => fun σ' G' H' R' => w σ' G' H' (R'.unlock h0 hL hl hm).1
  | .ct ρ', w => fun σ' G' H' R' => w σ' G' H' (R'.unlock h0 hL hl hm).1
  | .rt x ρ', w => fun v σ' G' H' R' hx => w v σ' G' H' (R'.unlock h0 hL hl hm).1 (hx.unlock h0 (fun o ho => by
      obtain ⟨x, g, b, u', rfl, hb, _⟩ := R'.sl i _ ho
      refine ⟨b, g, ?_⟩
      have : (if i = i then some a else F.L i) = some b := hb
      rw [if_pos rfl] at this
      exact (Option.some.inj this).symm) (R'.unlock h0 hL hl hm).2)
  | .err x ρ', w => fun c od σ' G' H' R' hx => w c od σ' G' H' (R'.unlock h0 hL hl hm).1 hx
  | .stuck, w => w
theorem L_forS {u : TS} {U : Tg} {B : En → SR} {g : TG} {vs : List Nat} (ha : LE K E ta A) (hg : LTg K vs g U) (hb : LS K E u B) : LS K E (tFor (iSeq K ta) g u) (sForS A U B) := by
  intro F G H σ ρ D R w
  unfold sForS seqOf at w
  refine ha F G H σ ρ _ R ?_
  -- one source
  have frozen : ∀ {v : V} {d : DL.D} {G1 H1 : Hp} {ρ1 : En}, Rl K F G1 H1 σ ρ1 → Rep K G1 v d → WS K E F D (((lift (d.items.map fun ds => ((none : Option Nat), ds)) ρ1)).sb fun p ρ1 => match p.1 with
      | none => forL U B p.2 ρ1
      | some i => (forL U B p.2 ρ1).unlock i) → ∃ a, v = .ref a ∧ (((∃ xs, SqL K H1 a xs) ∧ ∃ W : Nat → Nat → L2.St → Hp → Prop, (∃ m, W 0 m σ H1) ∧ ∀ i m σ H, W i m σ H → ((Itl K a).stop i H ∧ D.nx σ H) ∨ ((Itl K a).go i H ∧ ∃ N : L2.St → Hp → Prop, (∀ σ' H', N σ' H' → ∃ m', m' < m ∧ W (i + 1) m' σ' H') ∧ ∀ x H', (Itl K a).yld i H x H' → g x σ H' fun σ2 H2 => u { D with nx := N, ct := N, bk := D.nx } σ2 H2)) ∨
        ((∃ xs, SqT K H1 a xs) ∧ ∃ W : Nat → Nat → L2.St → Hp → Prop, (∃ m, W 0 m σ H1) ∧ ∀ i m σ H, W i m σ H → ((Itt K a).stop i H ∧ D.nx σ H) ∨ ((Itt K a).go i H ∧ ∃ N : L2.St → Hp → Prop, (∀ σ' H', N σ' H' → ∃ m', m' < m ∧ W (i + 1) m' σ' H') ∧ ∀ x H', (Itt K a).yld i H x H' → g x σ H' fun σ2 H2 => u { D with nx := N, ct := N, bk := D.nx } σ2 H2))) := by
    intro v d G1 H1 ρ1 R1 hr w1
    cases e : d.items with
    | none => rw [e] at w1; exact w1.elim
    | some ds =>
      rw [e] at w1
      obtain ⟨a, rfl, q⟩ := its_rep R1 hr e
      rcases q with ⟨q1, q2⟩ | ⟨q1, q2⟩
      · exact ⟨a, rfl, .inl ⟨q1, for_core hb hg R1 q2 (fun _ _ _ _ _ => trivial) w1⟩⟩
      · exact ⟨a, rfl, .inr ⟨q1, for_core hb hg R1 q2 (fun _ _ _ _ _ => trivial) w1⟩⟩
  cases e : A ρ with
  | stuck => rw [e] at w; exact w
  | err x ρ1 => rw [e] at w; exact fun c od G2 H2 R2 _ hx => w c od σ G2 H2 R2 hx
  | ok x ρ1 =>
    rw [e] at w
    intro v G1 H1 R1 s1 hx
    have w1 := w
    dsimp only [Res.bind] at w1
    cases x with
    | val d => exact frozen R1 hx w1
    | new o =>
      obtain ⟨G2, R2, s2, r2⟩ := R1.settle hx
      exact frozen R2 r2 w1
    | own i =>
      dsimp only at w1
      cases e2 : ρ1[i]? with
      | none => rw [e2] at w1; exact w1.elim
      | some s =>
        rw [e2] at w1
        cases s with
        | none => exact w1.elim
        | bor o => exact w1.elim
        | lck o => exact w1.elim
        | val d =>
          obtain ⟨v', h1, h2⟩ := R1.val e2
          rw [show σ[i]? = some (some v) from hx] at h1
          cases h1
          exact frozen R1 h2 w1
        | own o =>
          cases o with
          | ins C ks ds => exact w1.elim
          | lst ds =>
            dsimp only at w1
            obtain ⟨a, h1, h0, hg1, ws, h3, h4⟩ := R1.own e2
            rw [show σ[i]? = some (some v) from hx] at h1
            cases h1
            have hL : F.L i = none := by
              cases q : F.L i with
              | none => rfl
              | some b =>
                obtain ⟨o, ho⟩ := R1.hl i b q
                rw [e2] at ho
                cases ho
            have hl := R1.noL h0
            have hm := R1.noM h0
            have R2 := R1.lock e2 hx h3
            have P0 : ∀ G' H' σ' ρ', Rl K ((F.lock i a (.lst ws)).at G1) G' H' σ' ρ' → H' a = some (.lst ws) := fun G' H' σ' ρ' R' => R'.hk a _ upd_same hm
            exact ⟨a, rfl, .inl ⟨⟨ws, .inl (.inl h3)⟩, for_core (P := fun H => H a = some (.lst ws)) hb hg R2 (its_list (fun G' H' _ _ p => .inl (.inl p)) h4) P0 (WS.unlock h0 hL hl hm w1)⟩⟩
def whl (T : En → Res Bool) (B : En → SR) : Nat → En → SR
  | 0, _ => .stuck
  | n + 1, ρ => match T ρ with
    | .ok true ρ1 => match B ρ1 with
      | .nx ρ2 => whl T B n ρ2
      | .ct ρ2 => whl T B n ρ2
      | .bk ρ2 => .nx ρ2
      | r => r
    | .ok false ρ1 => .nx ρ1
    | .err x ρ1 => .err x ρ1
    | .stuck => .stuck
def sWhile (n : Nat) (T : En → Res Bool) (B : En → SR) : En → SR := whl T B n
theorem L_while {tt : TT} {T : En → Res Bool} {u : TS} {B : En → SR} (n : Nat) (ht : LT K E tt T) (hb : LS K E u B) : LS K E (tWhile tt u) (sWhile n T B) := by
  intro F G H σ ρ D R w
  refine ⟨fun m σ' H' => ∃ G' ρ', Rl K F G' H' σ' ρ' ∧ WS K E F D (whl T B m ρ'), ⟨n, G, ρ, R, w⟩, ?_⟩
  rintro m σ' H' ⟨G', ρ', R', w'⟩
  cases m with
  | zero => exact w'.elim
  | succ m =>
    unfold whl at w'
    refine ht F G' H' σ' ρ' _ R' ?_
    cases e : T ρ' with
    | stuck => rw [e] at w'; exact w'
    | err x ρ1 => rw [e] at w'; exact fun c od G2 H2 R2 _ hx => w' c od σ' G2 H2 R2 hx
    | ok b ρ1 =>
      rw [e] at w'
      intro b' G1 H1 R1 s1 eb
      subst eb
      cases b' with
      | false => exact iteF (w' σ' G1 H1 R1)
      | true =>
        refine iteT ⟨fun σ2 H2 => ∃ G2 ρ2, Rl K F G2 H2 σ2 ρ2 ∧ WS K E F D (whl T B m ρ2), fun σ2 H2 ⟨G2, ρ2, R2, w2⟩ => ⟨m, by omega, G2, ρ2, R2, w2⟩, ?_⟩
        dsimp only at w'
        refine hb F G1 H1 σ' ρ1 _ R1 ?_
        cases e2 : B ρ1 with
        | nx ρ2 => rw [e2] at w'; exact fun σ5 G5 H5 R5 => ⟨G5, ρ2, R5, w'⟩
        | ct ρ2 => rw [e2] at w'; exact fun σ5 G5 H5 R5 => ⟨G5, ρ2, R5, w'⟩
        | bk ρ2 => rw [e2] at w'; exact w'
        | rt y ρ2 => rw [e2] at w'; exact w'
        | err y ρ2 => rw [e2] at w'; exact w'
        | stuck => rw [e2] at w'; exact w'
end
end DL
set_option Elab.async false
set_option linter.all false
set_option maxRecDepth 100000
set_option maxHeartbeats 2000000
namespace DL
open PySem PySem.Spec PyProof.Rows L2 DD
@[simp] def wipeN (ρ : En) : List Nat → En
  | [] => ρ
  | v :: vs => (wipeN ρ vs).set v .none
section
variable {K : Fg} {E Et Ea : XK} {F : Fm} {G G' G1 H H' : Hp} {σ σ' : L2.St} {ρ ρ' : En}
theorem wipeN_length (ρ : En) : ∀ vs : List Nat, (wipeN ρ vs).length = ρ.length
  | [] => rfl
  | v :: vs => by unfold wipeN; rw [List.length_set, wipeN_length ρ vs]
theorem wipe_get {i : Nat} : ∀ {vs : List Nat}, i ∉ vs → (wipe σ vs)[i]? = σ[i]?
  | [], _ => rfl
  | v :: vs, h => by
    unfold wipe
    rw [List.getElem?_set_ne (fun e => h (by rw [e]; exact List.mem_cons_self ..))]
    exact wipe_get fun z => h (List.mem_cons_of_mem _ z)
theorem wipeN_get {i : Nat} : ∀ {vs : List Nat}, i ∉ vs → (wipeN ρ vs)[i]? = ρ[i]?
  | [], _ => rfl
  | v :: vs, h => by
    unfold wipeN
    rw [List.getElem?_set_ne (fun e => h (by rw [e]; exact List.mem_cons_self ..))]
    exact wipeN_get fun z => h (List.mem_cons_of_mem _ z)
def Wiped (ρ : En) (vs : List Nat) : Prop := ∀ v ∈ vs, ∀ s, ρ[v]? = some s → s = .none
theorem wiped_N : ∀ {vs : List Nat}, Wiped (wipeN ρ vs) vs
  | [] => fun v h => by cases h
  | w :: vs => fun v h s e => by
    unfold wipeN at e
    rcases getset e with ⟨_, e2, _⟩ | ⟨ne, e⟩
    · exact e2.symm
    · rcases List.mem_cons.mp h with rfl | h
      · exact absurd rfl ne
      · exact wiped_N v h s e
theorem wipe_wipe {vs : List Nat} : wipe (wipe σ vs) vs = wipe σ vs := by
  apply List.ext_getElem?
  intro i
  by_cases h : i ∈ vs
  · have z : ∀ (τ : L2.St) (ws : List Nat), i ∈ ws → (wipe τ ws)[i]? = if i < τ.length then some none else none := by
      intro τ ws
      induction ws with
      | nil => intro h; cases h
      | cons w ws ih =>
        intro h
        unfold wipe
        by_cases q : w = i
        · subst q
          by_cases hl : w < τ.length
          · rw [List.getElem?_set_self (by rw [wipe_length]; exact hl), if_pos hl]
          · rw [List.getElem?_eq_none (by rw [List.length_set, wipe_length]; omega), if_neg hl]
        · rw [List.getElem?_set_ne q]
          refine ih ?_
          rcases List.mem_cons.mp h with rfl | h
          · exact absurd rfl q
          · exact h
    rw [z _ _ h, z _ _ h, wipe_length]
  · rw [wipe_get h]
/-- slots that nobody asks of may hold anything -/
theorem Rl.any {vs : List Nat} (R : Rl K F G H σ ρ) (hw : Wiped ρ vs) (e : wipe σ' vs = wipe σ vs) : Rl K F G H σ' ρ := by
  have hl : σ'.length = σ.length := by
    have := congrArg List.length e
    rwa [wipe_length, wipe_length] at this
  have eq : ∀ i, i ∉ vs → σ'[i]? = σ[i]? := fun i h => by
    rw [← wipe_get (σ := σ') h, ← wipe_get (σ := σ) h, e]
  have own : ∀ (i : Nat) (o : O), ρ[i]? = some (.own o) → i ∉ vs := fun i o h z => by
    have := hw i z _ h
    cases this
  refine ⟨R.gh, R.g0, R.gn, R.hk, R.hm, R.hl, fun i s hs => ?_, fun i j o o' a h1 h2 h3 h4 => R.di i j o o' a h1 h2 (by rw [← eq i (own i o h1)]; exact h3) (by rw [← eq j (own j o' h2)]; exact h4), R.mi⟩
  obtain ⟨x, h1, h2⟩ := R.sl i s hs
  by_cases h : i ∈ vs
  · have := hw i h s hs
    subst this
    have hi : i < σ'.length := by rw [hl]; exact (List.getElem?_eq_some_iff.mp h1).1
    exact ⟨_, List.getElem?_eq_getElem hi, trivial⟩
  · exact ⟨x, by rw [eq i h]; exact h1, h2⟩
theorem Rl.wipeN {vs : List Nat} (R : Rl K F G H σ ρ) (hf : vs.all (freeAt ρ) = true) : Rl K F G H σ (wipeN ρ vs) := by
  have free : ∀ v ∈ vs, freeAt ρ v = true := List.all_eq_true.mp hf
  refine ⟨R.gh, R.g0, R.gn, R.hk, fun j a h => ?_, fun j a h => ?_, fun i s hs => ?_, fun i j o o' a h1 h2 h3 h4 => ?_, R.mi⟩
  · obtain ⟨h1, h2, o, h3⟩ := R.hm j a h
    refine ⟨h1, h2, o, ?_⟩
    rw [wipeN_get fun z => ?_]
    · exact h3
    · have := free j z
      unfold freeAt at this
      rw [h3] at this
      cases this
  · obtain ⟨o, h3⟩ := R.hl j a h
    refine ⟨o, ?_⟩
    rw [wipeN_get fun z => ?_]
    · exact h3
    · have := free j z
      unfold freeAt at this
      rw [h3] at this
      cases this
  · by_cases h : i ∈ vs
    · have := wiped_N i h s hs
      subst this
      have hi : i < ρ.length := by rw [← wipeN_length ρ vs]; exact (List.getElem?_eq_some_iff.mp hs).1
      exact ⟨_, List.getElem?_eq_getElem (R.lt hi), trivial⟩
    · rw [wipeN_get h] at hs
      exact R.sl i s hs
  · have n1 : i ∉ vs := fun z => by cases wiped_N i z _ h1
    have n2 : j ∉ vs := fun z => by cases wiped_N j z _ h2
    rw [wipeN_get n1] at h1
    rw [wipeN_get n2] at h2
    exact R.di i j o o' a h1 h2 h3 h4
def lcL (vs : List Nat) (U : Tg) (T : En → Res Bool) (A : En → Res X) : List D → En → List D → Res (List D)
  | [], ρ, acc => .ok acc ρ
  | d :: ds, ρ, acc => match U d ρ with
    | none => .stuck
    | some ρ1 => match T ρ1 with
      | .ok true ρ2 => match A ρ2 with
        | .ok x ρ3 => match toVal ρ3 x with
          | some (e, ρ4) => if acc.length < sizeLine ∧ vs.all (freeAt ρ4) = true then lcL vs U T A ds (wipeN ρ4 vs) (acc ++ [e]) else .stuck
          | none => .stuck
        | _ => .stuck
      | .ok false ρ2 => if vs.all (freeAt ρ2) = true then lcL vs U T A ds (wipeN ρ2 vs) acc else .stuck
      | _ => .stuck
theorem lc_core_D {vs : List Nat} {U : Tg} {T : En → Res Bool} {A : En → Res X} {g : TG} {tt : TT} {te : TE} {J : It} {ds es : List DL.D} {P : Hp → Prop} {a : Addr} {ρe : En} {Nf : Hp → Prop}
    (hg : LTg K vs g U) (ht : LT K Et tt T) (ha : LE K Ea te A) (h0 : F.H0 a = none) (hg0 : F.G0 a = none) (hl : ∀ i, F.L i ≠ some a) (hm : ∀ i, F.M i ≠ some a)
    (hI : Its K P G1 J ds) (hP : ∀ G' H' acc ρ', Rl K (F.hold a (.lst acc)) G' H' σ ρ' → Same G1 G' → P H')
    (fin : ∀ G H acc, Rl K (F.hold a (.lst acc)) G H σ ρe → Same G1 G → RepA K G acc es → Nf H)
    {G H : Hp} {ρ : En} {acc : List V} {accd : List DL.D} (R : Rl K (F.hold a (.lst acc)) G H σ ρ) (sG : Same G1 G) (hw : Wiped ρ vs) (hr : RepA K G acc accd) (w : lcL vs U T A ds ρ accd = .ok es ρe) :
    ∃ W : Nat → Nat → Hp → Prop, (∃ m, W 0 m H) ∧ ∀ i m H, W i m H → (J.stop i H ∧ Nf H) ∨ (J.go i H ∧ ∃ Nx : Hp → Prop, (∀ H', Nx H' → ∃ m', m' < m ∧ W (i + 1) m' H') ∧ ∀ x H', J.yld i H x H' → g x (wipe σ vs) H' fun σ2 H2 => wipe σ2 vs = wipe σ vs ∧ tt σ2 H2 fun b H3 =>
      if b = true then te σ2 H3 fun y H4 => ∃ acc, H4 a = some (.lst acc) ∧ acc.length < sizeLine ∧ Nx (upd H4 a (.lst (acc ++ [y]))) else Nx H3) := by
  refine ⟨fun i m H' => ∃ G' ρ' acc' accd', Rl K (F.hold a (.lst acc')) G' H' σ ρ' ∧ Same G1 G' ∧ Wiped ρ' vs ∧ RepA K G' acc' accd' ∧ i + m = ds.length ∧ lcL vs U T A (ds.drop i) ρ' accd' = .ok es ρe, ⟨ds.length, G, ρ, acc, accd, R, sG, hw, hr, by omega, w⟩, ?_⟩
  rintro i m H' ⟨G', ρ', acc', accd', R', s', hw', hr', hmm, w'⟩
  cases m with
  | zero =>
    rw [List.drop_eq_nil_of_le (by omega)] at w'
    cases w'
    exact .inl ⟨hI.stop G' H' s' R'.gh (hP _ _ _ _ R' s') i (by omega), fin G' H' acc' R' s' hr'⟩
  | succ m =>
    have hi : i < ds.length := by omega
    rw [List.drop_eq_getElem_cons hi] at w'
    refine .inr ⟨hI.go G' H' s' R'.gh (hP _ _ _ _ R' s') i hi, fun H2 => ∃ G2 ρ2 acc2 accd2, Rl K (F.hold a (.lst acc2)) G2 H2 σ ρ2 ∧ Same G1 G2 ∧ Wiped ρ2 vs ∧ RepA K G2 acc2 accd2 ∧ lcL vs U T A (ds.drop (i + 1)) ρ2 accd2 = .ok es ρe,
      fun H2 ⟨G2, ρ2, acc2, accd2, R2, s2, q1, q2, q3⟩ => ⟨m, by omega, G2, ρ2, acc2, accd2, R2, s2, q1, q2, by omega, q3⟩, fun x H3 hy => ?_⟩
    have Rw : Rl K (F.hold a (.lst acc')) G' H' (wipe σ vs) ρ' := R'.any hw' wipe_wipe
    obtain ⟨G3, R3, s3, _, k3, d, hd, hrd⟩ := hI.yld _ _ _ _ _ Rw s' (hP _ _ _ _ R' s') i x H3 hi hy
    rw [List.getElem?_eq_getElem hi] at hd
    cases hd
    unfold lcL at w'
    cases e : U ds[i] ρ' with
    | none => rw [e] at w'; cases w'
    | some ρ1 =>
      rw [e] at w'
      dsimp only at w'
      refine hg _ _ _ _ _ ρ1 x _ _ R3 hrd e fun σ4 R4 w4 => ⟨w4.trans wipe_wipe, ?_⟩
      have w4' : wipe σ vs = wipe σ4 vs := (w4.trans wipe_wipe).symm
      refine ht _ G3 H3 σ4 ρ1 _ R4 ?_
      cases e2 : T ρ1 with
      | stuck => rw [e2] at w'; cases w'
      | err y ρ2 => rw [e2] at w'; cases w'
      | ok b ρ2 =>
        rw [e2] at w'
        intro b' G5 H5 R5 s5 eb
        subst eb
        cases b' with
        | false =>
          refine iteF ?_
          dsimp only at w'
          split at w'
          · rename_i hf
            exact ⟨G5, _, acc', accd', (R5.wipeN hf).any wiped_N w4', s'.trans (s3.trans s5), wiped_N, hr'.mono (s3.trans s5), w'⟩
          · cases w'
        | true =>
          refine iteT ?_
          dsimp only at w'
          refine ha _ G5 H5 σ4 ρ2 _ R5 ?_
          cases e3 : A ρ2 with
          | stuck => rw [e3] at w'; cases w'
          | err y ρ3 => rw [e3] at w'; cases w'
          | ok z ρ3 =>
            rw [e3] at w'
            intro y G6 H6 R6 s6 hz
            dsimp only at w'
            cases e4 : toVal ρ3 z with
            | none => rw [e4] at w'; cases w'
            | some p =>
              obtain ⟨ed, ρ4⟩ := p
              rw [e4] at w'
              dsimp only at w'
              split at w'
              · rename_i hc
                obtain ⟨G7, R7, s7, r7⟩ := R6.toVal hz e4
                have sAll := s3.trans (s5.trans (s6.trans s7))
                refine ⟨acc', R7.heldH hm, by rw [hr'.len]; exact hc.1, G7, _, acc' ++ [y], accd' ++ [ed], ((R7.wipeN hc.2).any wiped_N w4').rehold h0 hg0 hl hm, s'.trans sAll, wiped_N, (hr'.mono sAll).app (.one r7), w'⟩
              · cases w'
def lcAll (vs : List Nat) (U : Tg) (T : En → Res Bool) (A : En → Res X) (ds : List D) (ρ : En) : Res X := if vs.all (freeAt ρ) = true then
    match lcL vs U T A ds (wipeN ρ vs) [] with
    | .ok es ρ2 => .ok (.new (.lst es)) ρ2
    | _ => .stuck
  else .stuck
def dLc (S : En → Res (List D)) (vs : List Nat) (U : Tg) (T : En → Res Bool) (A : En → Res X) : En → Res X := fun ρ => (S ρ).bind fun ds ρ1 => lcAll vs U T A ds ρ1
def tdYes : En → Res Bool := fun ρ => .ok true ρ
theorem L_yes : LT K E tYes tdYes := fun F G H σ ρ Q R w => w true G H R (Same.refl G) rfl
theorem lcAll_run {vs : List Nat} {U : Tg} {T : En → Res Bool} {A : En → Res X} {g : TG} {tt : TT} {te : TE} {J : It} {ds : List DL.D} {P : Hp → Prop} {Q : VK} (hg : LTg K vs g U) (ht : LT K Et tt T) (ha : LE K Ea te A)
    (R : Rl K F G H σ ρ) (hI : Its K P G J ds) (hP : ∀ (F' : Fm) G' H' ρ', Rl K F' G' H' σ ρ' → (∀ b o, F.H0 b = some o → F'.H0 b = some o) → F'.M = F.M → P H') (w : Wants K E (RepX K) F G σ Q (lcAll vs U T A ds ρ)) :
    ∀ a, H a = none → ∃ W : Nat → Nat → Hp → Prop, (∃ m, W 0 m (upd H a (.lst []))) ∧ ∀ i m H, W i m H → (J.stop i H ∧ Q (.ref a) H) ∨ (J.go i H ∧ ∃ Nx : Hp → Prop, (∀ H', Nx H' → ∃ m', m' < m ∧ W (i + 1) m' H') ∧ ∀ x H', J.yld i H x H' → g x (wipe σ vs) H' fun σ2 H2 => wipe σ2 vs = wipe σ vs ∧ tt σ2 H2 fun b H3 =>
      if b = true then te σ2 H3 fun y H4 => ∃ acc, H4 a = some (.lst acc) ∧ acc.length < sizeLine ∧ Nx (upd H4 a (.lst (acc ++ [y]))) else Nx H3) := by
  intro a na
  unfold lcAll at w
  split at w
  · rename_i hf
    have h0 := R.fresh na
    have hgG := R.freshG na
    have hg0 : F.G0 a = none := none_of R.g0 hgG
    have hl := R.noL h0
    have hm := R.noM h0
    have n : ∀ (j : Nat) (u : O), (DL.wipeN ρ vs)[j]? = some (.own u) → σ[j]? ≠ some (some (.ref a)) := fun j u hj z => by
      obtain ⟨b, h1, _, _, h4⟩ := (R.wipeN hf).own hj
      rw [h1] at z
      cases z
      obtain ⟨u, e⟩ := h4.ex
      rw [na] at e
      cases e
    have R1 : Rl K (F.hold a (.lst [])) G (upd H a (.lst [])) σ (DL.wipeN ρ vs) := ((R.wipeN hf).laid na).hold upd_same h0 hgG n
    cases e : lcL vs U T A ds (DL.wipeN ρ vs) [] with
    | stuck => rw [e] at w; exact w.elim
    | err x ρ2 => rw [e] at w; exact w.elim
    | ok es ρe =>
      rw [e] at w
      refine lc_core_D hg ht ha h0 hg0 hl hm hI (fun G' H' acc ρ' R' _ => hP _ G' H' ρ' R' (fun b o hb => ?_) rfl) (fun G' H' acc R' s' r' => ?_) R1 (Same.refl G) wiped_N .nil e
      · show upd F.H0 a _ b = some o
        rw [upd_ne (ne_of_none hb h0)]
        exact hb
      · exact w _ G' H' (R'.unhold h0 hl hm) s' ⟨a, rfl, h0, R'.heldG hg0, ⟨acc, R'.heldH hm, r'⟩, R'.heldN⟩
  · exact w.elim
theorem L_lc {wi : TI} {S : En → Res (List D)} {vs : List Nat} {U : Tg} {T : En → Res Bool} {A : En → Res X} {g : TG} {tt : TT} {te : TE} (hi : LI K E wi S) (hg : LTg K vs g U) (ht : LT K Et tt T) (ha : LE K Ea te A) : LE K E (tLc wi g tt te vs) (dLc S vs U T A) := by
  intro F G H σ ρ Q R w
  exact hi F G H σ ρ _ R (Wants.bind w fun J ds G1 H1 ρ1 R1 s1 hI w1 => lcAll_run hg ht ha R1 hI (fun _ _ _ _ _ _ _ => trivial) w1)
@[simp] def Res.unlock {α : Type} (i : Nat) : Res α → Res α
  | .ok a ρ => .ok a (unlockE ρ i)
  | .err x ρ => .err x (unlockE ρ i)
  | .stuck => .stuck
def dLcS (A0 : En → Res X) (vs : List Nat) (U : Tg) (T : En → Res Bool) (A : En → Res X) : En → Res X := fun ρ => (seqOf A0 ρ).bind fun p ρ1 => match p.1 with
  | none => lcAll vs U T A p.2 ρ1
  | some i => (lcAll vs U T A p.2 ρ1).unlock i
theorem Wants.unlock {i : Nat} {u : HO} {a : Addr} {Q : VK} (h0 : F.H0 a = none) (hL : F.L i = none) (hl : ∀ j, F.L j ≠ some a) (hm : ∀ j, F.M j ≠ some a) : ∀ {r : Res X}, Wants K E (RepX K) F G σ Q (r.unlock i) → Wants K E (RepX K) (F.lock i a u) G σ Q r
  | .ok x ρ', w => fun v G' H' R' s' hx => w v G' H' (R'.unlock h0 hL hl hm).1 s' (hx.unlock h0 (fun o ho => by
      obtain ⟨x, g, b, u', rfl, hb, _⟩ := R'.sl i _ ho
      refine ⟨b, g, ?_⟩
      have : (if i = i then some a else F.L i) = some b := hb
      rw [if_pos rfl] at this
      exact (Option.some.inj this).symm) (R'.unlock h0 hL hl hm).2)
  | .err x ρ', w => fun c od G' H' R' s' hx => w c od G' H' (R'.unlock h0 hL hl hm).1 s' hx
  | .stuck, w => w
theorem L_lcS {ta : TE} {A0 : En → Res X} {vs : List Nat} {U : Tg} {T : En → Res Bool} {A : En → Res X} {g : TG} {tt : TT} {te : TE} (h : LE K E ta A0) (hg : LTg K vs g U) (ht : LT K Et tt T) (ha : LE K Ea te A) : LE K E (tLc (iSeq K ta) g tt te vs) (dLcS A0 vs U T A) := by
  intro F G H σ ρ Q R w
  unfold dLcS seqOf at w
  refine h F G H σ ρ _ R ?_
  have frozen : ∀ {v : V} {d : DL.D} {G1 H1 : Hp} {ρ1 : En}, Rl K F G1 H1 σ ρ1 → Rep K G1 v d → Wants K E (RepX K) F G1 σ Q (((lift (d.items.map fun ds => ((none : Option Nat), ds)) ρ1)).bind fun p ρ1 => match p.1 with
      | none => lcAll vs U T A p.2 ρ1
      | some i => (lcAll vs U T A p.2 ρ1).unlock i) → ∃ a, v = .ref a ∧ (((∃ xs, SqL K H1 a xs) ∧ ∀ D, H1 D = none → ∃ W : Nat → Nat → Hp → Prop, (∃ m, W 0 m (upd H1 D (.lst []))) ∧ ∀ i m H, W i m H → ((Itl K a).stop i H ∧ Q (.ref D) H) ∨ ((Itl K a).go i H ∧ ∃ Nx : Hp → Prop, (∀ H', Nx H' → ∃ m', m' < m ∧ W (i + 1) m' H') ∧ ∀ x H', (Itl K a).yld i H x H' → g x (wipe σ vs) H' fun σ2 H2 => wipe σ2 vs = wipe σ vs ∧ tt σ2 H2 fun b H3 =>
        if b = true then te σ2 H3 fun y H4 => ∃ acc, H4 D = some (.lst acc) ∧ acc.length < sizeLine ∧ Nx (upd H4 D (.lst (acc ++ [y]))) else Nx H3)) ∨
        ((∃ xs, SqT K H1 a xs) ∧ ∀ D, H1 D = none → ∃ W : Nat → Nat → Hp → Prop, (∃ m, W 0 m (upd H1 D (.lst []))) ∧ ∀ i m H, W i m H → ((Itt K a).stop i H ∧ Q (.ref D) H) ∨ ((Itt K a).go i H ∧ ∃ Nx : Hp → Prop, (∀ H', Nx H' → ∃ m', m' < m ∧ W (i + 1) m' H') ∧ ∀ x H', (Itt K a).yld i H x H' → g x (wipe σ vs) H' fun σ2 H2 => wipe σ2 vs = wipe σ vs ∧ tt σ2 H2 fun b H3 =>
        if b = true then te σ2 H3 fun y H4 => ∃ acc, H4 D = some (.lst acc) ∧ acc.length < sizeLine ∧ Nx (upd H4 D (.lst (acc ++ [y]))) else Nx H3))) := by
    intro v d G1 H1 ρ1 R1 hr w1
    cases e : d.items with
    | none => rw [e] at w1; exact w1.elim
    | some ds =>
      rw [e] at w1
      obtain ⟨a, rfl, q⟩ := its_rep R1 hr e
      rcases q with ⟨q1, q2⟩ | ⟨q1, q2⟩
      · exact ⟨a, rfl, .inl ⟨q1, lcAll_run hg ht ha R1 q2 (fun _ _ _ _ _ _ _ => trivial) w1⟩⟩
      · exact ⟨a, rfl, .inr ⟨q1, lcAll_run hg ht ha R1 q2 (fun _ _ _ _ _ _ _ => trivial) w1⟩⟩
  cases e : A0 ρ with
  | stuck => rw [e] at w; exact w
  | err x ρ1 => rw [e] at w; exact w
  | ok x ρ1 =>
    rw [e] at w
    intro v G1 H1 R1 s1 hx
    have w1 := w
    dsimp only [Res.bind] at w1
    have w1 := w1.mono s1
    cases x with
    | val d => exact frozen R1 hx w1
    | new o =>
      obtain ⟨G2, R2, s2, r2⟩ := R1.settle hx
      exact frozen R2 r2 (Wants.mono s2 w1)
    | own i =>
      dsimp only at w1
      cases e2 : ρ1[i]? with
      | none => rw [e2] at w1; exact w1.elim
      | some s =>
        rw [e2] at w1
        cases s with
        | none => exact w1.elim
        | bor o => exact w1.elim
        | lck o => exact w1.elim
        | val d =>
          obtain ⟨v', h1, h2⟩ := R1.val e2
          rw [show σ[i]? = some (some v) from hx] at h1
          cases h1
          exact frozen R1 h2 w1
        | own o =>
          cases o with
          | ins C ks ds => exact w1.elim
          | lst ds =>
            dsimp only at w1
            obtain ⟨a, h1, h0, hg1, ws, h3, h4⟩ := R1.own e2
            rw [show σ[i]? = some (some v) from hx] at h1
            cases h1
            have hL : F.L i = none := by
              cases q : F.L i with
              | none => rfl
              | some b =>
                obtain ⟨o, ho⟩ := R1.hl i b q
                rw [e2] at ho
                cases ho
            have hl := R1.noL h0
            have hm := R1.noM h0
            have R2 := R1.lock e2 hx h3
            refine ⟨a, rfl, .inl ⟨⟨ws, .inl (.inl h3)⟩, lcAll_run (P := fun H => H a = some (.lst ws)) hg ht ha R2 (its_list (fun G' H' _ _ p => .inl (.inl p)) h4) (fun F' G' H' ρ' R' k hM => R'.hk a _ (k a _ upd_same) (by rw [hM]; exact hm)) (Wants.unlock h0 hL hl hm w1)⟩⟩
end
end DL
set_option Elab.async false
set_option linter.all false
set_option maxRecDepth 100000
set_option maxHeartbeats 2000000
namespace DL
open PySem PySem.Spec PyProof.Rows L2 DD
/-- what a body hands back -/
inductive Rt where
  | ok (x : X) (ρ : En) | err (x : Xc) (ρ : En) | stuck
def fin : SR → Rt
  | .nx ρ => .ok (.val .non) ρ
  | .rt (.val d) ρ => .ok (.val d) ρ
  | .rt (.new o) ρ => .ok (.new o) ρ
  | .rt (.own i) ρ => match ρ[i]? with
    | some (.val d) => .ok (.val d) ρ
    | some (.own o) => .ok (.new o) ρ
    | _ => .stuck
  | .err x ρ => .err x ρ
  | _ => .stuck
@[simp] def env0 (m : Nat) (ss : List Slot) : En := ss ++ List.replicate (m - ss.length) .none
/-- behind a def: ob is where what it borrowed stands -/
structure Post (K : Fg) (G H : Hp) (ob : Option Addr) (ρ' : En) (G' H' : Hp) : Prop where
  s : Same G G'
  k : Same G' H'
  g : ∀ a o, G' a = some o → G a = none → H a = none
  h : ∀ a o, H a = some o → ob ≠ some a → H' a = some o
  b : ∀ a, ob = some a → ∃ o, ρ'[0]? = some (.bor o) ∧ G' a = none ∧ ObjO K G' H' a o
def RetX (K : Fg) (H G' H' : Hp) (v : V) : X → Prop
  | .val d => Rep K G' v d
  | .new o => ∃ a, v = .ref a ∧ H a = none ∧ G' a = none ∧ ObjO K G' H' a o
  | .own _ => False
def Out (K : Fg) (E : XK) (G H : Hp) (ob : Option Addr) (Q : VK) : Rt → Prop
  | .ok x ρ' => ∀ v G' H', Post K G H ob ρ' G' H' → RetX K H G' H' v x → Q v H'
  | .err x ρ' => ∀ c od G' H', Post K G H ob ρ' G' H' → XRep K G' H' c od x → E c od H'
  | .stuck => False
def spD (K : Fg) (n m : Nat) (T : En → SR) : Sp := fun vs H Q E => ∃ G, Same G H ∧
  ((∃ ds, RepA K G vs ds ∧ vs.length = n ∧ Out K E G H none Q (fin (T (env0 m (ds.map .val))))) ∨
   ∃ a o ws ds, vs = .ref a :: ws ∧ RepA K G ws ds ∧ ws.length + 1 = n ∧ G a = none ∧ ObjO K G H a o ∧ Out K E G H (some a) Q (fin (T (env0 m (.bor o :: ds.map .val)))))
section
variable {P : Program} {w : World} {K : Fg} {mg : Str → Option Value} {base : Heap} {E : XK} {G G' H H' : Hp}
theorem start_get {N : List Str} {vs : List V} {i : Nat} (h : i < N.length) (hn : vs.length ≤ N.length) : ∃ x, (start N vs)[i]? = some x ∧ ∀ v, vs[i]? = some v → x = some v := by
  unfold L2.start
  by_cases hi : i < vs.length
  · refine ⟨some vs[i], ?_, fun v e => ?_⟩
    · rw [List.getElem?_append_left (by simpa using hi), List.getElem?_map, List.getElem?_eq_getElem hi]
      rfl
    · rw [List.getElem?_eq_getElem hi] at e
      cases e
      rfl
  · refine ⟨none, ?_, fun v e => ?_⟩
    · rw [List.getElem?_append_right (by simpa using hi), List.getElem?_replicate, List.length_map, if_pos (by omega)]
    · rw [List.getElem?_eq_none (by omega)] at e
      cases e
theorem env0_get {m i : Nat} {ss : List Slot} {s : Slot} (h : (env0 m ss)[i]? = some s) : ss[i]? = some s ∨ (s = .none ∧ ss.length ≤ i ∧ i < ss.length + (m - ss.length)) := by
  unfold env0 at h
  by_cases hi : i < ss.length
  · rw [List.getElem?_append_left hi] at h
    exact .inl h
  · rw [List.getElem?_append_right (by omega), List.getElem?_replicate] at h
    split at h
    · cases h
      exact .inr ⟨rfl, by omega, by omega⟩
    · cases h
theorem map_val_get {ds : List D} {i : Nat} {s : Slot} (h : (ds.map Slot.val)[i]? = some s) : ∃ d, ds[i]? = some d ∧ s = .val d := by
  rw [List.getElem?_map, Option.map_eq_some_iff] at h
  obtain ⟨d, h1, h2⟩ := h
  exact ⟨d, h1, h2.symm⟩
/-- at the entry, nothing borrowed -/
theorem ent0 {N : List Str} {vs : List V} {ds : List D} (s : Same G H) (r : RepA K G vs ds) (hn : vs.length ≤ N.length) : Rl K ⟨H, G, fun _ => none, fun _ => none⟩ G H (start N vs) (env0 N.length (ds.map .val)) := by
  have hl := r.len
  refine ⟨s, Same.refl G, fun a o h h' => (by rw [show G a = none from h'] at h; cases h), fun a o h _ => h, fun i a h => (nomatch h), fun i a h => (nomatch h), fun i t h => ?_, fun i j o o' a h => ?_, fun i j a h => (nomatch h)⟩
  · rcases env0_get h with h | ⟨rfl, h1, h2⟩
    · obtain ⟨d, h1, rfl⟩ := map_val_get h
      obtain ⟨v, h2, h3⟩ := r.get h1
      have hi : i < vs.length := (List.getElem?_eq_some_iff.mp h2).1
      obtain ⟨x, e1, e2⟩ := start_get (N := N) (vs := vs) (i := i) (by omega) hn
      exact ⟨x, e1, v, e2 v h2, h3⟩
    · rw [List.length_map] at h1 h2
      obtain ⟨x, e1, e2⟩ := start_get (N := N) (vs := vs) (i := i) (by omega) hn
      exact ⟨x, e1, trivial⟩
  · rcases env0_get h with h | ⟨e, _⟩
    · obtain ⟨d, _, e⟩ := map_val_get h
      cases e
    · cases e
theorem ent1 {N : List Str} {a : Addr} {o : O} {vs : List V} {ds : List D} (s : Same G H) (r : RepA K G vs ds) (hn : vs.length + 1 ≤ N.length) (hg : G a = none) (ho : ObjO K G H a o) :
    Rl K ⟨H, G, fun i => if i = 0 then some a else none, fun _ => none⟩ G H (start N (.ref a :: vs)) (env0 N.length (.bor o :: ds.map .val)) := by
  have hl := r.len
  have M0 : ∀ i b, (if i = 0 then some a else none) = some b → i = 0 ∧ b = a := fun i b h => by
    split at h
    · rename_i e
      exact ⟨e, (Option.some.inj h).symm⟩
    · cases h
  refine ⟨s, Same.refl G, fun a o h h' => (by rw [show G a = none from h'] at h; cases h), fun a o h _ => h, fun i b h => ?_, fun i a h => (nomatch h), fun i t h => ?_, fun i j u u' b h => ?_, fun i j b h h' => (M0 i b h).1.trans (M0 j b h').1.symm⟩
  · obtain ⟨rfl, rfl⟩ := M0 i b h
    obtain ⟨u, e⟩ := ho.ex
    have hn : H b ≠ none := by rw [e]; exact fun z => (nomatch z)
    exact ⟨hn, hn, o, rfl⟩
  · rcases env0_get h with h | ⟨rfl, h1, h2⟩
    · cases i with
      | zero =>
        simp at h
        subst h
        obtain ⟨x, e1, e2⟩ := start_get (N := N) (vs := .ref a :: vs) (i := 0) (by omega) (by simpa using hn)
        exact ⟨x, e1, a, e2 _ rfl, rfl, hg, ho⟩
      | succ i =>
        obtain ⟨d, h1, rfl⟩ := map_val_get (i := i) (by simpa using h)
        obtain ⟨v, h2, h3⟩ := r.get h1
        have hi : i < vs.length := (List.getElem?_eq_some_iff.mp h2).1
        obtain ⟨x, e1, e2⟩ := start_get (N := N) (vs := .ref a :: vs) (i := i + 1) (by omega) (by simpa using hn)
        exact ⟨x, e1, v, e2 v (by simpa using h2), h3⟩
    · rw [List.length_cons, List.length_map] at h1 h2
      obtain ⟨x, e1, e2⟩ := start_get (N := N) (vs := .ref a :: vs) (i := i) (by omega) (by simpa using hn)
      exact ⟨x, e1, trivial⟩
  · rcases env0_get h with h | ⟨e, _⟩
    · cases i with
      | zero => simp at h
      | succ i =>
        have h' : (ds.map Slot.val)[i]? = some (.own u) := h
        obtain ⟨d, _, e⟩ := map_val_get h'
        cases e
    · cases e
theorem post0 {σ : L2.St} {ρ' : En} (R : Rl K ⟨H, G, fun _ => none, fun _ => none⟩ G' H' σ ρ') : Post K G H none ρ' G' H' :=
  ⟨R.g0, R.gh, R.gn, fun a o h _ => R.hk a o h (fun _ z => (nomatch z)), fun a h => (nomatch h)⟩
theorem post1 {a : Addr} {σ : L2.St} {ρ' : En} (R : Rl K ⟨H, G, fun i => if i = 0 then some a else none, fun _ => none⟩ G' H' σ ρ') : Post K G H (some a) ρ' G' H' := by
  refine ⟨R.g0, R.gh, R.gn, fun b o h n => R.hk b o h fun i z => n ?_, fun b h => ?_⟩
  · have z' : (if i = 0 then some a else none) = some b := z
    split at z'
    · exact z'
    · cases z'
  · cases h
    obtain ⟨_, _, o, ho⟩ := R.hm 0 a rfl
    obtain ⟨c, h1, h2, h3, h4⟩ := R.bor ho
    have : c = a := (Option.some.inj (show some a = some c from h2)).symm
    subst this
    exact ⟨o, ho, h3, h4⟩
theorem out_ws {F : Fm} {ob : Option Addr} {Q : VK} {D : Ends} (hF : F.H0 = H) (hp : ∀ {σ : L2.St} {ρ' : En} {G' H' : Hp}, Rl K F G' H' σ ρ' → Post K G H ob ρ' G' H') (hD : ∀ σ H', Q .non H' → D.nx σ H') (hr : ∀ v H', Q v H' → D.rt v H') : ∀ {r : SR}, Out K E G H ob Q (fin r) → WS K E F D r
  | .nx ρ', o => fun σ G' H' R => hD _ _ (o .non G' H' (hp R) .non)
  | .rt (.val d) ρ', o => fun v σ G' H' R hx => hr _ _ (o v G' H' (hp R) hx)
  | .rt (.new u) ρ', o => fun v σ G' H' R hx => hr _ _ (o v G' H' (hp R) (by
      obtain ⟨a, e, h0, hg, ho, _⟩ := hx
      rw [hF] at h0
      exact ⟨a, e, h0, hg, ho⟩))
  | .rt (.own i) ρ', o => fun v σ G' H' R hx => by
    simp only [fin] at o
    split at o
    · rename_i d e
      obtain ⟨v', h1, h2⟩ := R.val e
      rw [show σ[i]? = some (some v) from hx] at h1
      cases h1
      exact hr _ _ (o v G' H' (hp R) h2)
    · rename_i u e
      obtain ⟨a, h1, h0, hg, ho⟩ := R.own e
      rw [show σ[i]? = some (some v) from hx] at h1
      cases h1
      rw [hF] at h0
      exact hr _ _ (o _ G' H' (hp R) ⟨a, rfl, h0, hg, ho⟩)
    · exact o.elim
  | .err x ρ', o => fun c od σ G' H' R hx => o c od G' H' (hp R) hx
  | .bk ρ', o => o.elim
  | .ct ρ', o => o.elim
  | .stuck, o => o.elim
theorem spD_run {n : Nat} {N : List Str} {T : En → SR} {t : TS} {vs : List V} {Q : VK} (hN : n ≤ N.length) (h : LS K E t T) (hs : spD K n N.length T vs H Q E) : t { nx := fun _ H' => Q .non H', rt := Q } (start N vs) H := by
  obtain ⟨G, s, hs⟩ := hs
  rcases hs with ⟨ds, r, hn, o⟩ | ⟨a, u, ws, ds, rfl, r, hn, hg, ho, o⟩
  · exact h _ G H _ _ _ (ent0 s r (by omega)) (out_ws rfl post0 (fun _ _ q => q) (fun _ _ q => q) o)
  · exact h _ G H _ _ _ (ent1 s r (by omega) hg ho) (out_ws rfl post1 (fun _ _ q => q) (fun _ _ q => q) o)
theorem spD_len {n m : Nat} {T : En → SR} {vs : List V} {Q : VK} (hs : spD K n m T vs H Q E) : vs.length = n := by
  obtain ⟨G, s, hs⟩ := hs
  rcases hs with ⟨ds, r, hn, o⟩ | ⟨a, u, ws, ds, rfl, r, hn, hg, ho, o⟩
  · exact hn
  · rw [List.length_cons]; exact hn
end
section
variable {K : Fg} {E : XK} {F : Fm} {G G' H H' : Hp} {σ : L2.St} {ρ ρ' : En}
theorem Rl.after {ch : Addr → Prop} (R : Rl K F G H σ ρ) (s : Same G G') (k : Same G' H') (g : ∀ b o, G' b = some o → G b = none → H b = none) (hk : ∀ b o, H b = some o → ¬ ch b → H' b = some o)
    (far : ∀ b, ch b → F.H0 b = none ∧ ∀ (j : Nat) (u : O), ρ[j]? = some (.own u) → σ[j]? ≠ some (some (.ref b))) : Rl K F G' H' σ ρ where
  gh := k
  g0 := R.g0.trans s
  gn := fun b o hb hb' => by
    cases e : G b with
    | some u => exact R.gn b u e hb'
    | none => exact R.fresh (g b o hb e)
  hk := fun b o hb n => hk b o (R.hk b o hb n) fun c => by rw [(far b c).1] at hb; cases hb
  hm := fun i b hb => by
    obtain ⟨h1, h2, h3⟩ := R.hm i b hb
    refine ⟨fun z => ?_, h2, h3⟩
    cases e : H b with
    | none => exact h1 e
    | some u =>
      rw [hk b u e fun c => h2 (far b c).1] at z
      cases z
  hl := R.hl
  sl := fun i t hs => by
    obtain ⟨x, h1, h2⟩ := R.sl i t hs
    refine ⟨x, h1, ?_⟩
    have gone : ∀ b, G b = none → (∃ u, H b = some u) → G' b = none := fun b hb hu => by
      cases e : G' b with
      | none => rfl
      | some o =>
        obtain ⟨u, hu⟩ := hu
        rw [g b o e hb] at hu
        cases hu
    cases t with
    | none => trivial
    | val d =>
      obtain ⟨v, e1, e2⟩ := h2
      exact ⟨v, e1, e2.mono s⟩
    | own u =>
      obtain ⟨b, rfl, e2, e3, e4⟩ := h2
      exact ⟨b, rfl, e2, gone b e3 e4.ex, e4.mono s fun y hy => hk b y hy fun c => (far b c).2 i u hs h1⟩
    | bor u =>
      obtain ⟨b, rfl, e2, e3, e4⟩ := h2
      exact ⟨b, rfl, e2, gone b e3 e4.ex, e4.mono s fun y hy => hk b y hy fun c => (R.hm i b e2).2.1 (far b c).1⟩
    | lck u =>
      obtain ⟨b, y, rfl, e2, e3, e5, e6, e4⟩ := h2
      exact ⟨b, y, rfl, e2, gone b e3 e4.ex, e5, e6, e4.mono s fun z hz => hk b z hz fun c => by rw [(far b c).1] at e5; cases e5⟩
  di := R.di
  mi := R.mi
/-- what slot i holds was lent and has come back -/
theorem Rl.lent {i : Nat} {t t' : Slot} {o : O} {a : Addr} (R : Rl K F G H σ ρ) (h : ρ[i]? = some t) (ht : t.re o = some t') (ha : σ[i]? = some (some (.ref a))) (s : Same G G') (k : Same G' H') (g : ∀ b u, G' b = some u → G b = none → H b = none) (hk : ∀ b u, H b = some u → b ≠ a → H' b = some u)
    (hg : G' a = none) (ho : ObjO K G' H' a o) : Rl K F G' H' σ (ρ.set i t') := by
  have hil : i < ρ.length := (List.getElem?_eq_some_iff.mp h).1
  have ha' : H' a ≠ none := by obtain ⟨u, e⟩ := ho.ex; rw [e]; exact fun z => nomatch z
  have hc : ∀ x, F.H0 a = some x → ∃ j, F.M j = some a := fun x e => by
    rcases re_cases ht with ⟨u0, rfl, rfl⟩ | ⟨u0, rfl, rfl⟩
    · obtain ⟨b, h1, h2, _⟩ := R.own h
      rw [ha] at h1; cases h1; rw [h2] at e; cases e
    · obtain ⟨b, h1, h2, _⟩ := R.bor h
      rw [ha] at h1; cases h1; exact ⟨i, h2⟩
  have gone : ∀ b, G b = none → (∃ u, H b = some u) → G' b = none := fun b hb hu => by
    cases e : G' b with
    | none => rfl
    | some o =>
      obtain ⟨u, hu⟩ := hu
      rw [g b o e hb] at hu
      cases hu
  refine ⟨k, R.g0.trans s, fun b x hb hb' => ?_, fun b x e n => ?_, fun j b e => ?_, fun j b e => ?_, fun j y e => ?_, fun j l w w' b h1 h2 h3 h4 => ?_, R.mi⟩
  · cases e : G b with
    | some u => exact R.gn b u e hb'
    | none => exact R.fresh (g b x hb e)
  · by_cases q : b = a
    · subst q
      obtain ⟨j, z⟩ := hc x e
      exact absurd z (n j)
    · exact hk b x (R.hk b x e n) q
  · obtain ⟨h1, h2, w, h3⟩ := R.hm j b e
    refine ⟨fun z => ?_, h2, ?_⟩
    · by_cases q : b = a
      · rw [q] at z; exact ha' z
      · cases e2 : H b with
        | none => exact h1 e2
        | some u => rw [hk b u e2 q] at z; cases z
    · by_cases q : i = j
      · subst q
        rw [h] at h3
        rcases re_cases ht with ⟨u0, rfl, rfl⟩ | ⟨u0, rfl, rfl⟩
        · cases h3
        · exact ⟨o, List.getElem?_set_self hil⟩
      · rw [List.getElem?_set_ne q]
        exact ⟨w, h3⟩
  · obtain ⟨w, h3⟩ := R.hl j b e
    by_cases q : i = j
    · subst q
      rw [h] at h3
      rcases re_cases ht with ⟨u0, rfl, rfl⟩ | ⟨u0, rfl, rfl⟩ <;> cases h3
    · rw [List.getElem?_set_ne q]
      exact ⟨w, h3⟩
  · rcases getset e with ⟨rfl, rfl, _⟩ | ⟨ne, e'⟩
    · refine ⟨_, ha, ?_⟩
      rcases re_cases ht with ⟨u0, rfl, rfl⟩ | ⟨u0, rfl, rfl⟩
      · obtain ⟨b, h1, h2, h3, _⟩ := R.own h
        rw [ha] at h1; cases h1
        exact ⟨_, rfl, h2, hg, ho⟩
      · obtain ⟨b, h1, h2, h3, _⟩ := R.bor h
        rw [ha] at h1; cases h1
        exact ⟨_, rfl, h2, hg, ho⟩
    · obtain ⟨x, h1, h2⟩ := R.sl j y e'
      refine ⟨x, h1, ?_⟩
      cases y with
      | none => trivial
      | val d =>
        obtain ⟨v, e1, e2⟩ := h2
        exact ⟨v, e1, e2.mono s⟩
      | own w =>
        obtain ⟨b, rfl, e2, e3, e4⟩ := h2
        refine ⟨b, rfl, e2, gone b e3 e4.ex, e4.mono s fun y hy => hk b y hy fun q => ?_⟩
        subst q
        rcases re_cases ht with ⟨u0, rfl, rfl⟩ | ⟨u0, rfl, rfl⟩
        · exact ne (R.di i j _ _ b h e' ha h1)
        · obtain ⟨c, g1, g2, _⟩ := R.bor h
          rw [ha] at g1; cases g1
          exact (R.hm i _ g2).2.1 e2
      | bor w =>
        obtain ⟨b, rfl, e2, e3, e4⟩ := h2
        refine ⟨b, rfl, e2, gone b e3 e4.ex, e4.mono s fun y hy => hk b y hy fun q => ?_⟩
        subst q
        rcases re_cases ht with ⟨u0, rfl, rfl⟩ | ⟨u0, rfl, rfl⟩
        · obtain ⟨c, g1, g2, _⟩ := R.own h
          rw [ha] at g1; cases g1
          exact (R.hm j _ e2).2.1 g2
        · obtain ⟨c, g1, g2, _⟩ := R.bor h
          rw [ha] at g1; cases g1
          exact ne (R.mi i j b g2 e2)
      | lck w =>
        obtain ⟨b, y, rfl, e2, e3, e5, e6, e4⟩ := h2
        refine ⟨b, y, rfl, e2, gone b e3 e4.ex, e5, e6, e4.mono s fun z hz => hk b z hz fun q => ?_⟩
        subst q
        obtain ⟨j, z⟩ := hc y e5
        exact e6 j z
  · rcases getset h1 with ⟨rfl, e1, _⟩ | ⟨n1, h1'⟩
    · rcases getset h2 with ⟨rfl, _, _⟩ | ⟨n2, h2'⟩
      · rfl
      · rcases re_cases ht with ⟨u0, rfl, rfl⟩ | ⟨u0, rfl, rfl⟩
        · exact R.di _ _ _ _ b h h2' h3 h4
        · cases e1
    · rcases getset h2 with ⟨rfl, e2, _⟩ | ⟨n2, h2'⟩
      · rcases re_cases ht with ⟨u0, rfl, rfl⟩ | ⟨u0, rfl, rfl⟩
        · exact R.di _ _ _ _ b h1' h h3 h4
        · cases e2
      · exact R.di j l w w' b h1' h2' h3 h4
def callV (r : Rt) (ρ : En) : Res X := match r with
  | .ok x _ => .ok x ρ
  | .err x _ => .err x ρ
  | .stuck => .stuck
theorem retX {v : V} {x : X} (R : Rl K F G H σ ρ) (h : RetX K H G' H' v x) : RepX K F G' H' σ ρ v x := by
  cases x with
  | val d => exact h
  | own i => exact h.elim
  | new o =>
    obtain ⟨a, rfl, h0, hg, ho⟩ := h
    refine ⟨a, rfl, R.fresh h0, hg, ho, fun j u hj z => ?_⟩
    obtain ⟨b, h1, _, _, h4⟩ := R.own hj
    rw [h1] at z
    cases z
    obtain ⟨u, e⟩ := h4.ex
    rw [h0] at e
    cases e
theorem callV_out {Q : VK} {r : Rt} (R : Rl K F G H σ ρ) (w : Wants K E (RepX K) F G σ Q (callV r ρ)) : Out K E G H none Q r := by
  cases r with
  | ok x ρ' =>
    intro v G' H' p hx
    have R' := R.after (ch := fun _ => False) p.s p.k p.g (fun b o h _ => p.h b o h fun z => nomatch z) fun b z => z.elim
    exact w v G' H' R' p.s (retX R hx)
  | err x ρ' =>
    intro c od G' H' p hx
    have R' := R.after (ch := fun _ => False) p.s p.k p.g (fun b o h _ => p.h b o h fun z => nomatch z) fun b z => z.elim
    exact w c od G' H' R' p.s hx
  | stuck => exact w
/-- f(..): all by value -/
def dCall (n m : Nat) (T : En → SR) (A : En → Res (List X)) : En → Res X := fun ρ => (A ρ).bind fun xs ρ1 => match toVals ρ1 xs with
  | some (ds, ρ2) => if ds.length = n then callV (fin (T (env0 m (ds.map .val)))) ρ2 else .stuck
  | none => .stuck
theorem call_sp {n m : Nat} {T : En → SR} {Q : VK} {vs : List V} {ds : List D} (R : Rl K F G H σ ρ) (r : RepA K G vs ds) (hn : ds.length = n) (w : Wants K E (RepX K) F G σ Q (callV (fin (T (env0 m (ds.map .val)))) ρ)) : spD K n m T vs H Q E :=
  ⟨G, R.gh, .inl ⟨ds, r, by rw [r.len, hn], callV_out R w⟩⟩
theorem L_call {n m : Nat} {T : En → SR} {t : TA} {A : En → Res (List X)} (ha : LA K E t A) : LE K E (tCallR (spD K n m T) E t) (dCall n m T A) := by
  refine LG.bind (k := fun vs σ H (Q : VK) => spD K n m T vs H Q E) ha fun F G H σ ρ vs xs Q R hx w => ?_
  cases e : toVals ρ xs with
  | none => rw [e] at w; exact w.elim
  | some p =>
    obtain ⟨ds, ρ2⟩ := p
    rw [e] at w
    dsimp only at w
    obtain ⟨G1, R1, s1, r1⟩ := R.toVals hx e
    split at w
    · rename_i hn
      exact call_sp R1 r1 hn (w.mono s1)
    · exact w.elim
/-- f(x, ..): x in slot i is lent -/
@[simp] def coAt (ρ : En) (i : Nat) : Option O := ρ[i]?.bind Slot.co
@[simp] def reAt (ρ : En) (i : Nat) (o : O) : En := match ρ[i]? with
  | some (.own _) => ρ.set i (.own o)
  | some (.bor _) => ρ.set i (.bor o)
  | _ => ρ
def callB (r : Rt) (i : Nat) (ρ : En) : Res X := match r with
  | .ok x ρ' => match (ρ'[0]? : Option Slot) with
    | some (.bor o) => .ok x (reAt ρ i o)
    | _ => .stuck
  | .err x ρ' => match (ρ'[0]? : Option Slot) with
    | some (.bor o) => .err x (reAt ρ i o)
    | _ => .stuck
  | .stuck => .stuck
def dCallB (n m : Nat) (T : En → SR) (i : Nat) (A : En → Res (List X)) : En → Res X := fun ρ => (A ρ).bind fun xs ρ1 => match toVals ρ1 xs with
  | some (ds, ρ2) => match coAt ρ2 i with
    | some o => if ds.length + 1 = n then callB (fin (T (env0 m (.bor o :: ds.map .val)))) i ρ2 else .stuck
    | none => .stuck
  | none => .stuck
theorem Rl.co {i : Nat} {o : O} (R : Rl K F G H σ ρ) (h : coAt ρ i = some o) : ∃ s a, ρ[i]? = some s ∧ s.co = some o ∧ σ[i]? = some (some (.ref a)) ∧ G a = none ∧ ObjO K G H a o := by
  unfold coAt at h
  cases e : ρ[i]? with
  | none => rw [e] at h; cases h
  | some s =>
    rw [e] at h
    obtain ⟨a, h1, h2, h3⟩ := R.holder e h
    exact ⟨s, a, rfl, h, h1, h2, h3⟩
theorem Rl.lentAt {i : Nat} {o o' : O} {a : Addr} {ρ'' : En} (R : Rl K F G H σ ρ) (h : coAt ρ i = some o) (ha : σ[i]? = some (some (.ref a))) (p : Post K G H (some a) ρ'' G' H') (ho : ρ''[0]? = some (.bor o')) : Rl K F G' H' σ (reAt ρ i o') := by
  obtain ⟨s, b, h1, h2, h3, h4, h5⟩ := R.co h
  rw [ha] at h3
  cases h3
  obtain ⟨u, e1, e2, e3⟩ := p.b a rfl
  rw [ho] at e1
  cases e1
  rcases co_cases h2 with rfl | rfl
  · have e : reAt ρ i o' = ρ.set i (.own o') := by unfold reAt; rw [h1]
    rw [e]
    exact R.lent h1 rfl ha p.s p.k p.g (fun b u hb n => p.h b u hb fun z => n (Option.some.inj z).symm) e2 e3
  · have e : reAt ρ i o' = ρ.set i (.bor o') := by unfold reAt; rw [h1]
    rw [e]
    exact R.lent h1 rfl ha p.s p.k p.g (fun b u hb n => p.h b u hb fun z => n (Option.some.inj z).symm) e2 e3
theorem retX' {v : V} {x : X} {i : Nat} {o o' : O} (R : Rl K F G H σ ρ) (hc : coAt ρ i = some o) (h : RetX K H G' H' v x) : RepX K F G' H' σ (reAt ρ i o') v x := by
  cases x with
  | val d => exact h
  | own i => exact h.elim
  | new u =>
    obtain ⟨a, rfl, h0, hg, ho⟩ := h
    refine ⟨a, rfl, R.fresh h0, hg, ho, fun j w hj z => ?_⟩
    have : ∃ w', ρ[j]? = some (.own w') := by
      obtain ⟨s, b, h1, h2, _⟩ := R.co hc
      unfold reAt at hj
      rw [h1] at hj
      rcases co_cases h2 with rfl | rfl
      · rcases getset hj with ⟨rfl, _, _⟩ | ⟨_, hj⟩
        · exact ⟨_, h1⟩
        · exact ⟨_, hj⟩
      · rcases getset hj with ⟨rfl, e, _⟩ | ⟨_, hj⟩
        · cases e
        · exact ⟨_, hj⟩
    obtain ⟨w', hw⟩ := this
    obtain ⟨b, h1, _, _, h4⟩ := R.own hw
    rw [h1] at z
    cases z
    obtain ⟨u, e⟩ := h4.ex
    rw [h0] at e
    cases e
theorem L_callB {n m i : Nat} {T : En → SR} {t : TA} {A : En → Res (List X)} (ha : LA K E t A) : LE K E (tCallR (spD K n m T) E (tCons (tVar i) t)) (fun ρ => if (coAt ρ i).isSome then dCallB n m T i A ρ else .stuck) := by
  intro F G H σ ρ Q R w
  dsimp only at w
  split at w
  · rename_i hi
    obtain ⟨o0, e0⟩ := Option.isSome_iff_exists.mp hi
    obtain ⟨s, a, h1, h2, h3, h4, h5⟩ := R.co e0
    refine ⟨_, h3, ha F G H σ ρ _ R (w.bind fun vs xs G1 H1 ρ1 R1 s1 hx w1 => ?_)⟩
    cases e : toVals ρ1 xs with
    | none => rw [e] at w1; exact w1.elim
    | some p =>
      obtain ⟨ds, ρ2⟩ := p
      rw [e] at w1
      dsimp only at w1
      obtain ⟨G2, R2, s2, r2⟩ := R1.toVals hx e
      have w2 := w1.mono s2
      cases ec : coAt ρ2 i with
      | none => rw [ec] at w2; exact w2.elim
      | some o =>
        rw [ec] at w2
        dsimp only at w2
        obtain ⟨t', b, g1, g2, g3, g4, g5⟩ := R2.co ec
        rw [h3] at g3
        cases g3
        split at w2
        · rename_i hn
          refine ⟨G2, R2.gh, .inr ⟨a, o, vs, ds, rfl, r2, by rw [r2.len, hn], g4, g5, ?_⟩⟩
          cases er : fin (T (env0 m (.bor o :: ds.map .val))) with
          | ok x ρ' =>
            rw [er] at w2
            intro v G' H' p hx
            obtain ⟨o', e1, _, _⟩ := p.b a rfl
            simp only [callB, e1] at w2
            exact w2 v G' H' (R2.lentAt ec h3 p e1) p.s (retX' R2 ec hx)
          | err x ρ' =>
            rw [er] at w2
            intro c od G' H' p hx
            obtain ⟨o', e1, _, _⟩ := p.b a rfl
            simp only [callB, e1] at w2
            exact w2 c od G' H' (R2.lentAt ec h3 p e1) p.s hx
          | stuck => rw [er] at w2; exact w2
        · exact w2.elim
  · exact w.elim
@[simp] def noF (f : Str) (ks : List Str) : Bool := !ks.contains f
theorem noF_lookup {f : Str} : ∀ {fs : List (Str × V)}, noF f (fs.map (·.1)) = true → fs.lookup f = none
  | [], _ => rfl
  | (k, v) :: fs, h => by
    simp only [noF, List.map_cons, List.contains_cons, Bool.not_or, Bool.and_eq_true, Bool.not_eq_true'] at h
    simp only [List.lookup, h.1]
    exact noF_lookup (by simp only [noF, Bool.not_eq_true']; exact h.2)
def dMeth (C : Addr) (f : Str) (n m : Nat) (T : En → SR) (A : En → Res X) (B : En → Res (List X)) : En → Res X := fun ρ => (A ρ).bind fun a ρ1 => match toVal ρ1 a with
  | some (.ins C' ks es, ρ2) => if C' = C ∧ noF f ks = true then (B ρ2).bind fun xs ρ3 => match toVals ρ3 xs with
      | some (ds, ρ4) => if ds.length + 1 = n then callV (fin (T (env0 m ((D.ins C' ks es :: ds).map .val)))) ρ4 else .stuck
      | none => .stuck
    else .stuck
  | _ => .stuck
theorem L_meth {C : Addr} {f : Str} {n m : Nat} {T : En → SR} {ta : TE} {t : TA} {A : En → Res X} {B : En → Res (List X)} (ha : LE K E ta A) (hb : LA K E t B) : LE K E (DD.tMethR C f (spD K n m T) E ta t) (dMeth C f n m T A B) := by
  refine LG.bind (k := fun x σ H (Q : VK) => ∃ a dx fs, x = .ref a ∧ H a = some (.ins C dx fs) ∧ fs.lookup f = none ∧ t σ H fun vs H2 => spD K n m T (x :: vs) H2 Q E) ha fun F G H σ ρ x a Q R hx w => ?_
  cases e : toVal ρ a with
  | none => rw [e] at w; exact w.elim
  | some p =>
    obtain ⟨d, ρ2⟩ := p
    rw [e] at w
    obtain ⟨G1, R1, s1, r1⟩ := R.toVal hx e
    cases d <;> try exact w.elim
    rename_i C' ks es
    dsimp only at w
    split at w
    · rename_i hc
      obtain ⟨rfl, hf⟩ := hc
      have r1' := r1
      cases r1 with
      | ins h1 h2 h3 =>
        subst h2
        refine ⟨_, _, _, rfl, R1.gh _ _ h1, noF_lookup hf, hb F G1 H σ ρ2 _ R1 ((w.mono s1).bind fun vs xs G2 H2 ρ3 R2 s2 hx2 w2 => ?_)⟩
        cases e2 : toVals ρ3 xs with
        | none => rw [e2] at w2; exact w2.elim
        | some p =>
          obtain ⟨ds, ρ4⟩ := p
          rw [e2] at w2
          dsimp only at w2
          obtain ⟨G3, R3, s3, r3⟩ := R2.toVals hx2 e2
          split at w2
          · rename_i hn
            exact call_sp R3 (.cons (r1'.mono (s2.trans s3)) r3) (by rw [List.length_cons]; exact hn) (w2.mono s3)
          · exact w2.elim
    · exact w.elim
def dProp (C : Addr) (m : Nat) (T : En → SR) (A : En → Res X) : En → Res X := fun ρ => (A ρ).bind fun a ρ1 => match toVal ρ1 a with
  | some (.ins C' ks es, ρ2) => if C' = C then callV (fin (T (env0 m [.val (D.ins C' ks es)]))) ρ2 else .stuck
  | _ => .stuck
def makeV (r : Rt) (ρ : En) : Res X := match r with
  | .ok (.val .non) ρ' => match (ρ'[0]? : Option Slot) with
    | some (.bor o) => .ok (.new o) ρ
    | _ => .stuck
  | .err x _ => .err x ρ
  | _ => .stuck
def dMake (C : Addr) (n m : Nat) (T : En → SR) (A : En → Res (List X)) : En → Res X := fun ρ => (A ρ).bind fun xs ρ1 => match toVals ρ1 xs with
  | some (ds, ρ2) => if ds.length + 1 = n then makeV (fin (T (env0 m (.bor (.ins C [] []) :: ds.map .val)))) ρ2 else .stuck
  | none => .stuck
theorem make_sp {C : Addr} {n m : Nat} {T : En → SR} {Q : VK} {vs : List V} {ds : List D} {x dx : Addr} (R : Rl K F G H σ ρ) (r : RepA K G vs ds) (hn : ds.length + 1 = n) (nx : H x = none) (ndx : H dx = none) (ne : dx ≠ x)
    (w : Wants K E (RepX K) F G σ Q (makeV (fin (T (env0 m (.bor (.ins C [] []) :: ds.map .val)))) ρ)) : spD K n m T (.ref x :: vs) (upd (upd H dx (.own x)) x (.ins C dx [])) (fun v H2 => v = .non ∧ Q (.ref x) H2) E := by
  have R1 := R.laid (o := .own x) ndx
  have nx1 : upd H dx (.own x) x = none := by rw [upd_ne (Ne.symm ne)]; exact nx
  have R2 := R1.laid (o := .ins C dx []) nx1
  have x0 := R.fresh nx
  have far : ∀ b, b = x → F.H0 b = none ∧ ∀ (j : Nat) (u : O), ρ[j]? = some (.own u) → σ[j]? ≠ some (some (.ref b)) := fun b e => by
    subst e
    refine ⟨x0, fun j u hj z => ?_⟩
    obtain ⟨c, h1, _, _, h4⟩ := R.own hj
    rw [h1] at z
    cases z
    obtain ⟨u, e⟩ := h4.ex
    rw [nx] at e
    cases e
  refine ⟨G, R2.gh, .inr ⟨x, .ins C [] [], vs, ds, rfl, r, by rw [r.len, hn], R.freshG nx, ⟨dx, [], upd_same, rfl, .nil⟩, ?_⟩⟩
  cases er : fin (T (env0 m (.bor (.ins C [] []) :: ds.map .val))) with
  | stuck => rw [er] at w; exact w
  | err y ρ' =>
    rw [er] at w
    intro c od G' H' p hx
    have R3 := R2.after (ch := fun b => b = x) p.s p.k p.g (fun b o h n => p.h b o h fun z => n (Option.some.inj z).symm) far
    exact w c od G' H' R3 p.s hx
  | ok y ρ' =>
    rw [er] at w
    intro v G' H' p hx
    have R3 := R2.after (ch := fun b => b = x) p.s p.k p.g (fun b o h n => p.h b o h fun z => n (Option.some.inj z).symm) far
    cases y with
    | own i => exact w.elim
    | new o => exact w.elim
    | val d =>
      cases d <;> try exact w.elim
      cases hx
      obtain ⟨o, e1, e2, e3⟩ := p.b x rfl
      simp only [makeV, e1] at w
      exact ⟨rfl, w _ G' H' R3 p.s ⟨x, rfl, x0, e2, e3, (far x rfl).2⟩⟩
theorem L_make {C : Addr} {n m : Nat} {T : En → SR} {t : TA} {A : En → Res (List X)} (ha : LA K E t A) : LE K E (StX.tMakeR C (spD K n m T) E t) (dMake C n m T A) := by
  refine LG.bind (k := fun vs σ H (Q : VK) => ∀ x dx, H x = none → H dx = none → dx ≠ x → spD K n m T (.ref x :: vs) (upd (upd H dx (.own x)) x (.ins C dx [])) (fun v H2 => v = .non ∧ Q (.ref x) H2) E) ha fun F G H σ ρ vs xs Q R hx w => ?_
  cases e : toVals ρ xs with
  | none => rw [e] at w; exact w.elim
  | some p =>
    obtain ⟨ds, ρ2⟩ := p
    rw [e] at w
    dsimp only at w
    obtain ⟨G1, R1, s1, r1⟩ := R.toVals hx e
    split at w
    · rename_i hn
      exact fun x dx nx ndx ne => make_sp R1 r1 hn nx ndx ne (w.mono s1)
    · exact w.elim
end
end DL
set_option Elab.async false
set_option linter.all false
set_option maxRecDepth 100000
set_option maxHeartbeats 2000000
namespace DL
open PySem PySem.Spec PyProof.Rows L2 DD
@[simp] def D.ty : D → Value
  | .non => .type "NoneType"
  | .bl _ => .type "bool"
  | .int _ => .type "int"
  | .str _ => .type "str"
  | .tup _ => .type "tuple"
  | .lst _ | .scr _ => .type "list"
  | .ins C _ _ => .ref C
  | .cls _ => .none
@[simp] def D.tyOk (Cs : List Addr) : D → Bool
  | .ins C _ _ => Cs.contains C
  | .cls _ => false
  | _ => true
structure TyC (K : Fg) (C : Addr) : Prop where
  cl : Cls K C
  ha : PySem.W.findIn K (.ref C) "__class__" = some (some (.builtin "object.__class__"))
  hn : PySem.W.specialIn K (.builtin "object.__class__") "__get__" = some (some (.builtin "getset_descriptor.__get__"))
  ht : PySem.W.takesIn K (.builtin "object.__class__") = some true
  hm : PySem.W.mroIn K C (.type "object") = some true
abbrev Kit := Value → Value → Option Bool
def KitOk (K : Fg) (kt : Kit) : Prop := ∀ t u b, kt t u = some b → PySem.W.kitOne K t u = some b
def anyK (kt : Kit) (t : Value) : List Value → Option Bool
  | [] => some false
  | u :: us => match kt t u with
    | some true => some true
    | some false => anyK kt t us
    | none => none
section
variable {K : Fg} {E : XK} {F : Fm} {G G' H H' : Hp} {σ : L2.St} {ρ ρ' : En}
theorem anyK_ok {kt : Kit} (hk : KitOk K kt) {t : Value} {b : Bool} : ∀ {us : List Value}, anyK kt t us = some b → PySem.W.kitAny K t us = some b
  | [], e => by cases e; rfl
  | u :: us, e => by
    unfold anyK at e
    cases e1 : kt t u with
    | none => rw [e1] at e; cases e
    | some c =>
      rw [e1] at e
      cases c with
      | true => exact kitAny_cons (hk _ _ _ e1) (fun z => nomatch z) fun _ => by cases e; rfl
      | false => exact kitAny_cons (hk _ _ _ e1) (fun _ => anyK_ok hk e) fun z => nomatch z
theorem ty_rep {Cs : List Addr} (hc : ∀ C ∈ Cs, TyC K C) {v : V} {d : D} (h : Rep K H v d) (ok : d.tyOk Cs = true) : TyX K H v d.ty := by
  cases h with
  | non => exact .base .non
  | bl b => exact .base (.bl b)
  | int i => exact .base (.int i)
  | str x => exact .base (.str x)
  | tup g r =>
    rcases g with (g | ⟨o, g⟩) | ⟨o, its, n, g, c, _⟩
    · exact .base (.tup g)
    · exact .fTuple g
    · exact .kTuple g c
  | lst g r => exact .base (.lst g)
  | scr g r =>
    rcases g with (g | ⟨o, g⟩) | ⟨o, its, n, g, c, _⟩
    · exact .base (.lst g)
    · exact .base (.frz g)
    · exact .kList g c
  | @ins a C dx fs ks ds g k r =>
    have t := hc C (by simpa [D.tyOk] using ok)
    exact .base (.ins g t.cl t.ha t.hn t.ht t.hm)
  | cls C => cases ok
def dIsi (kt : Kit) (Cs : List Addr) (us : List Value) (A : En → Res X) : En → Res X := fun ρ => (A ρ).bind fun a ρ1 => match deref ρ1 a with
  | some d => if d.tyOk Cs = true then lift ((anyK kt d.ty us).map fun b => X.val (.bl b)) ρ1 else .stuck
  | none => .stuck
theorem L_isi {kt : Kit} {Cs : List Addr} {c : V} {u : Value} {ta : TE} {A : En → Res X} (hk : KitOk K kt) (hc : ∀ C ∈ Cs, TyC K C) (hu : ClsV c u) (ha : LE K E ta A) : LE K E (tCB (rIsi K) (tCons ta (tCons (tC c) tNil))) (dIsi kt Cs [u] A) := by
  refine LG.bind (k := fun x σ H (Q : VK) => rIsi K [x, c] H Q) ha fun F G H σ ρ x a Q R hx w => ?_
  cases e : deref ρ a with
  | none => rw [e] at w; exact w.elim
  | some d =>
    rw [e] at w
    dsimp only at w
    split at w
    · rename_i ok
      obtain ⟨z, ez, q⟩ := w.lift
      rw [Option.map_eq_some_iff] at ez
      obtain ⟨b, eb, rfl⟩ := ez
      have e1 : kt d.ty u = some b := by
        unfold anyK at eb
        cases e1 : kt d.ty u with
        | none => rw [e1] at eb; cases eb
        | some c =>
          rw [e1] at eb
          cases c with
          | true => exact eb
          | false => cases eb; rfl
      exact ⟨x, c, d.ty, u, b, rfl, hu, ty_rep hc ((R.deref hx e).rep R.gh) ok, hk _ _ _ e1, q _ G H R (Same.refl G) (.bl _)⟩
    · exact w.elim
def tCs : List V → TA
  | [] => tNil
  | c :: cs => tCons (tC c) (tCs cs)
theorem tCs_run {Q : List V → Hp → Prop} : ∀ {cs : List V}, Q cs H → tCs cs σ H Q
  | [], q => q
  | c :: cs, q => tCs_run (cs := cs) (Q := fun xs H2 => Q (c :: xs) H2) q
theorem L_isiT {kt : Kit} {Cs : List Addr} {cs : List V} {us : List Value} {ta : TE} {A : En → Res X} (hk : KitOk K kt) (hc : ∀ C ∈ Cs, TyC K C) (hu : Paired ClsV cs us) (hz : cs.length ≤ sizeLine) (ha : LE K E ta A) :
    LE K E (tCB (rIsiT K) (tCons ta (tCons (tTup (tCs cs)) tNil))) (dIsi kt Cs us A) := by
  refine LG.bind (k := fun x σ H (Q : VK) => tTup (tCs cs) σ H fun y H2 => rIsiT K [x, y] H2 Q) ha fun F G H σ ρ x a Q R hx w => ?_
  obtain ⟨G1, R1, s1, hx1⟩ := R.settle hx
  have e0 : deref ρ a.settle = deref ρ a := by cases a <;> rfl
  cases e : deref ρ a with
  | none => rw [e] at w; exact w.elim
  | some d =>
    rw [e] at w
    dsimp only at w
    split at w
    · rename_i ok
      obtain ⟨z, ez, q⟩ := w.lift
      rw [Option.map_eq_some_iff] at ez
      obtain ⟨b, eb, rfl⟩ := ez
      refine tCs_run ⟨hz, fun p np => ?_⟩
      have R2 := R1.laid (o := .tup cs) np
      have hx2 : RepX K F G1 (upd H p (.tup cs)) σ ρ x a.settle := hx1.keep settle_no (Same.refl G1)
      exact ⟨x, p, cs, d.ty, us, b, rfl, upd_same, hu, ty_rep hc ((R2.deref hx2 (e0.trans e)).rep R2.gh) ok, anyK_ok hk eb, q _ G1 _ R2 s1 (.bl _)⟩
    · exact w.elim
def callP (p : X → Option X) (r : Rt) (ρ : En) : Res X := match r with
  | .ok x _ => lift (p x) ρ
  | .err x _ => .err x ρ
  | .stuck => .stuck
@[simp] def xStr : X → Option X
  | .val (.str y) => some (.val (.str y))
  | _ => none
@[simp] def xBl : X → Option X
  | .val (.bl y) => some (.val (.bl y))
  | _ => none
@[simp] def xNb : X → Option X
  | .val (.bl y) => some (.val (.bl !y))
  | _ => none
@[simp] def xLen : X → Option X
  | .val (.int i) => if 0 ≤ i ∧ i < 2 ^ 63 then some (.val (.int i)) else none
  | _ => none
def dStrO (C : Addr) (m : Nat) (T : En → SR) (A : En → Res X) : En → Res X := fun ρ => (A ρ).bind fun a ρ1 => match toVal ρ1 a with
  | some (.ins C' ks es, ρ2) => if C' = C then callP xStr (fin (T (env0 m [.val (D.ins C' ks es)]))) ρ2 else .stuck
  | _ => .stuck
def dLenO (C : Addr) (m : Nat) (T : En → SR) (A : En → Res X) : En → Res X := fun ρ => (A ρ).bind fun a ρ1 => match toVal ρ1 a with
  | some (.ins C' ks es, ρ2) => if C' = C then callP xLen (fin (T (env0 m [.val (D.ins C' ks es)]))) ρ2 else .stuck
  | _ => .stuck
def dEqO (p : X → Option X) (C : Addr) (m : Nat) (T : En → SR) (A B : En → Res X) : En → Res X := fun ρ => (A ρ).bind fun a ρ1 => (B ρ1).bind fun b ρ2 => match toVal ρ2 a.settle with
  | some (.ins C' ks es, ρ3) => match toVal ρ3 b.settle with
    | some (.ins C'' ks' es', ρ4) => if C' = C ∧ C'' = C then callP p (fin (T (env0 m [.val (D.ins C' ks es), .val (D.ins C'' ks' es')]))) ρ4 else .stuck
    | _ => .stuck
  | _ => .stuck
theorem Out.mono {ob : Option Addr} {Q Q' : VK} (h : ∀ v H', Q v H' → Q' v H') : ∀ {r : Rt}, Out K E G H ob Q r → Out K E G H ob Q' r
  | .ok x ρ', o => fun v G' H' p hx => h _ _ (o v G' H' p hx)
  | .err x ρ', o => o
  | .stuck, o => o
def lc2L (vs vs1 : List Nat) (U : Tg) (T : En → Res Bool) (S1 : En → Res (List D)) (U1 : Tg) (T1 : En → Res Bool) (A : En → Res X) : List D → En → List D → Res (List D)
  | [], ρ, acc => .ok acc ρ
  | d :: ds, ρ, acc => match U d ρ with
    | none => .stuck
    | some ρ1 => match T ρ1 with
      | .ok true ρ2 => match S1 ρ2 with
        | .ok es ρ3 => if vs1.all (freeAt ρ3) = true then match lcL vs1 U1 T1 A es (wipeN ρ3 vs1) acc with
            | .ok acc' ρ4 => if vs.all (freeAt ρ4) = true then lc2L vs vs1 U T S1 U1 T1 A ds (wipeN ρ4 vs) acc' else .stuck
            | _ => .stuck
          else .stuck
        | _ => .stuck
      | .ok false ρ2 => if vs.all (freeAt ρ2) = true then lc2L vs vs1 U T S1 U1 T1 A ds (wipeN ρ2 vs) acc else .stuck
      | _ => .stuck
def dLc2 (S : En → Res (List D)) (vs vs1 : List Nat) (U : Tg) (T : En → Res Bool) (S1 : En → Res (List D)) (U1 : Tg) (T1 : En → Res Bool) (A : En → Res X) : En → Res X := fun ρ => (S ρ).bind fun ds ρ1 => if vs.all (freeAt ρ1) = true then
    match lc2L vs vs1 U T S1 U1 T1 A ds (wipeN ρ1 vs) [] with
    | .ok es ρ2 => .ok (.new (.lst es)) ρ2
    | _ => .stuck
  else .stuck
end
end DL
set_option Elab.async false
set_option linter.all false
set_option maxRecDepth 100000
set_option maxHeartbeats 2000000
namespace DL
open PySem PySem.Spec PyProof.Rows L2 DD
abbrev opSub : D2 := opI fun i j => .int (i - j)
noncomputable abbrev opMul : D2 := opIC CMul fun i j => .int (i * j)
noncomputable abbrev opFdiv : D2 := opIC CDiv fun i j => .int (i / j)
noncomputable abbrev opMod : D2 := opIC (fun _ j => 0 < j) fun i j => .int (i % j)
noncomputable abbrev opPow : D2 := opIC CPow fun i j => .int (i ^ j.toNat)
abbrev opLe : D2 := opI fun i j => .bl (decide (i ≤ j))
abbrev opGt : D2 := opI fun i j => .bl (decide (j < i))
abbrev opGe : D2 := opI fun i j => .bl (decide (j ≤ i))
@[simp] def opNeg : D → Option X
  | .int i => some (.val (.int (-i)))
  | _ => none
def dUn (f : D → Option X) (A : En → Res X) : En → Res X := fun ρ => (A ρ).bind fun a ρ1 => match deref ρ1 a with
  | some d => lift (f d) ρ1
  | none => .stuck
def dLend (n m : Nat) (T : En → SR) (i : Nat) (A : En → Res (List X)) : En → Res X := fun ρ => if (coAt ρ i).isSome then dCallB n m T i A ρ else .stuck
/-- a def that raises nothing -/
def spD0 (K : Fg) (n m : Nat) (T : En → SR) : Sp := fun vs H Q _ => spD K n m T vs H Q E0
/-- the last arguments are the defaults dd -/
@[simp] def fillD (n : Nat) (dd : List D) (ρ : En) : En := env0 ρ.length (ρ.take n ++ dd.map Slot.val)
section
variable {P : Program} {w : World} {K : Fg} {mg : Str → Option Value} {base : Heap} {E : XK} {G H : Hp}
theorem L_neg {ta : TE} {A : En → Res X} (ha : LE K E ta A) : LE K E (tUn (rU fun i => .int (-i)) ta) (dUn opNeg A) := by
  refine LG.bind (k := fun x σ H (Q : VK) => ∃ i, x = .int i ∧ Q (.int (-i)) H) ha fun F G H σ ρ x a Q R hx w => ?_
  cases e : deref ρ a with
  | none => rw [e] at w; exact w.elim
  | some d =>
    rw [e] at w
    obtain ⟨z, ez, q⟩ := w.lift
    have hd := R.deref hx e
    cases d <;> cases ez
    exact ⟨_, hd.int, q _ G H R (Same.refl G) (.int _)⟩
theorem L_lend {n m i : Nat} {T : En → SR} {t : TA} {A : En → Res (List X)} (ha : LA K E t A) : LE K E (tCallR (spD K n m T) E (tCons (tVar i) t)) (dLend n m T i A) := L_callB ha
theorem fill_env {m n : Nat} {ss : List Slot} {dd : List D} (hn : ss.length = n) (hm : n + dd.length ≤ m) : fillD n dd (env0 m ss) = env0 m (ss ++ dd.map Slot.val) := by
  have hl : (env0 m ss).length = m := by
    unfold env0
    rw [List.length_append, List.length_replicate]
    omega
  unfold fillD
  rw [hl]
  congr 1
  unfold env0
  rw [List.take_left' hn]
theorem spD_fill {n m : Nat} {T : En → SR} {dd : List D} {dvs vs : List V} {Q : VK} (hr : ∀ G, RepA K G dvs dd) (hm : n + dd.length ≤ m) (h : spD K n m (fun ρ => T (fillD n dd ρ)) vs H Q E) : spD K (n + dd.length) m T (vs ++ dvs) H Q E := by
  obtain ⟨G, s, h⟩ := h
  refine ⟨G, s, ?_⟩
  rcases h with ⟨ds, r, hn, o⟩ | ⟨a, u, ws, ds, rfl, r, hn, hg, ho, o⟩
  · refine .inl ⟨ds ++ dd, r.app (hr G), by rw [List.length_append, hn, (hr G).len], ?_⟩
    have e : fillD n dd (env0 m (ds.map Slot.val)) = env0 m (ds.map Slot.val ++ dd.map Slot.val) := fill_env (by rw [List.length_map, ← r.len, hn]) hm
    dsimp only at o
    rw [e] at o
    rw [List.map_append]
    exact o
  · refine .inr ⟨a, u, ws ++ dvs, ds ++ dd, rfl, r.app (hr G), by rw [List.length_append, (hr G).len]; omega, hg, ho, ?_⟩
    have e : fillD n dd (env0 m (Slot.bor u :: ds.map Slot.val)) = env0 m (Slot.bor u :: ds.map Slot.val ++ dd.map Slot.val) := fill_env (by rw [List.length_cons, List.length_map, ← r.len, hn]) hm
    dsimp only at o
    rw [e] at o
    rw [List.map_append]
    exact o
/-- a def with defaults, those from the j-th on left out -/
theorem mkDD {x qual : Str} {st : Stmt} {f : Addr} {N ps : List Str} {k : Nat} {T : En → SR} {dvs : List V} {dd : List D} (n j : Nat) (F : ∃ fd, FunD K x qual (defArgs st) (defBody st) (defScope st) dvs [] f fd) (hd : dvs ≠ []) (hn : n + (dvs.length - j) = ps.length) (S : FnScope N ps (defScope st)) (hN : ps.length ≤ N.length)
    (hr : ∀ G, RepA K G (dvs.drop j) dd)
    (hb : ∀ (T : Addr) (kV doc pm : Value) (an : Option Addr) (cdv ct : Value) (us its : List Value), us.length = n → its.length = dvs.length →
      ∃ k, bindArgs (PySem.W.fnOf x qual (defArgs st) (defBody st) (defScope st) (.ref T) kV doc pm an cdv ct) ⟨us, []⟩ = seqItems? (.ref T) >>= k ∧ k (some its.toArray) = pure (ps.zip (us ++ its.drop j)))
    (hbody : ∀ (cdv : Value) (A : Around) (outer : List Env) (s : Shared) (H : Hp) (E : XK), Room k (A.deeper (envOfC qual (defScope st) s.heap.objs.size f cdv)) →
      ∃ t, PSs (cxOf CX0 P w K mg base N qual (defScope st) f cdv A outer s H E) (defBody st) t ∧ LS K E0 t T) : FnR P w K mg base CX0 (k + 1) f (spD0 K n N.length (fun ρ => T (fillD n dd ρ))) := by
  obtain ⟨fd, F⟩ := F
  have hdd : dd.length = dvs.length - j := by rw [← (hr fun _ => none).len, List.length_drop]
  have G : FnOk P w K mg base CX0 (k + 1) f fd ps (spD0 K ps.length N.length T) := F.ok S (fun vs H Q E h => spD_len h) fun cdv A outer s H vs Q E hr hs => by
    obtain ⟨t, h1, h2⟩ := hbody cdv A outer s H E hr
    exact ⟨t, h1, spD_run hN h2 hs⟩
  obtain ⟨ds, hv, b⟩ := F.binds1 n j hd hn hb
  refine (G.raw b hv).imp fun vs H Q E h => ?_
  have := spD_fill (E := E0) (T := T) hr (by omega) h
  rw [hdd, hn] at this
  exact this
def dCMeth (C : Addr) (n m : Nat) (T : En → SR) (B : En → Res (List X)) : En → Res X := fun ρ => (B ρ).bind fun xs ρ1 => match toVals ρ1 xs with
  | some (ds, ρ2) => if ds.length + 1 = n then callV (fin (T (env0 m ((D.cls C :: ds).map .val)))) ρ2 else .stuck
  | none => .stuck
def dMakeL (C : Addr) (i n m : Nat) (T : En → SR) (A : En → Res (List X)) : En → Res X := fun ρ => match ρ[i]? with
  | some (.val (.cls C')) => if C' = C then dMake C n m T A ρ else .stuck
  | _ => .stuck
theorem pe_fldK {X : Cx} {K : Fg} {e : Expr} {f : Str} {pos : Pos} {ta : TE} (he : PE X e ta) (hb : attributeBase e f X.env (eval e X.env) = eval e X.env) (h : X.K = K := by rfl) : PE X (.Attribute e f pos) (tFld K ta f) := h ▸ pe_fld he hb
theorem pg_tupK {X : Cx} {K : Fg} {es : List Expr} {k : Nat} {t : TGs} {n : Nat} {pos : Pos} (hc : X.calm = true) (h : PGs X es t)
    (hn : (assignEach es X.env).length = n := by rfl) (hst : (assignEach es X.env).findIdx? (·.1) = none := by rfl) (hK : X.K = K := by rfl) : PG X (.Tuple es k pos) (gTup K n t) := hK ▸ pg_tup hc h hn hst
theorem room5 {k : Nat} {A : Around} (hr : Room k A) : A.units + 65 < cLine := by
  have := hr.un
  omega
structure Cl where
  Day : Addr
  Rule : Addr
  Frame : Addr
  DimError : Addr
  InvalidDay : Addr
  InvalidRule : Addr
  InvalidFrame : Addr
  InvalidText : Addr
  InvalidLooks : Addr
  InvalidSlot : Addr
  InvalidCommand : Addr
  Refused : Addr
  NoMeeting : Addr
  Maker : Addr
  Machine : Addr
  Viewer : Addr
  Live : Addr
  Desk : Addr
def blts : List String := ["int", "bool", "str", "tuple", "list"]
theorem kit_blt {C : Addr} {b : String} (hb : b ∈ blts) (h : PySem.W.subIn K (.ref C) (.type b) = some false) : PySem.W.kitOne K (.ref C) (.type b) = some false := by
  have m : PySem.W.kitMeta b = true := by
    simp only [blts, List.mem_cons, List.not_mem_nil, or_false] at hb
    rcases hb with rfl | rfl | rfl | rfl | rfl <;> decide +kernel
  have e : ((Value.ref C) == (Value.type b)) = false := rfl
  unfold PySem.W.kitOne
  rw [e]
  show (if PySem.W.kitMeta b = true then PySem.W.subIn K (.ref C) (.type b) else none) = _
  rw [if_pos m, h]
def kitD (Cs : List Addr) : Kit
  | .type a, .type b => kitB a b
  | .ref a, .type b => if a ∈ Cs ∧ b ∈ blts then some false else none
  | .ref a, .ref b => if a = b then some true else none
  | .type a, .ref b => if a = "str" ∧ b ∈ Cs then some false else none
  | _, _ => none
theorem kitD_ok {Cs : List Addr} (h : ∀ C ∈ Cs, PySem.W.kitOne K (.type "str") (.ref C) = some false) (h2 : ∀ C ∈ Cs, ∀ b ∈ blts, PySem.W.subIn K (.ref C) (.type b) = some false) : KitOk K (kitD Cs) := by
  intro t u b e
  unfold kitD at e
  split at e
  · exact kit_ty e
  · split at e
    · rename_i hc
      cases e
      exact kit_blt hc.2 (h2 _ hc.1 _ hc.2)
    · cases e
  · split at e
    · rename_i h
      cases e
      rw [h]
      simp [PySem.W.kitOne]
    · cases e
  · split at e
    · rename_i hc
      cases e
      rw [hc.1]
      exact h _ hc.2
    · cases e
  · cases e
def sDead : En → SR := fun _ => .stuck
theorem L_dead : LS K E (fun _ _ _ => False) sDead := fun F G H σ ρ D R w => w.elim
def dSeqI (A : En → Res X) : En → Res (List D) := fun ρ => (A ρ).bind fun a ρ1 => match a with
  | .val d => lift d.items ρ1
  | .new o => lift o.d.items ρ1
  | .own i => match ρ1[i]? with
    | some (.val d) => lift d.items ρ1
    | _ => .stuck
abbrev leP {α : Type} : α × PyData → α × PyData → Bool := PySem.W.dataLe false Prod.snd
def rSortedData (K : Fg) : List V → Hp → VK → Prop := fun vs H Q => ∃ (a : Addr) (xs : List V) (ps : List PyData), vs = [V.ref a] ∧ SqL K H a xs ∧ DpAll K H xs ps ∧ PySem.W.AllAlike ps ∧ PySem.W.Sortable ps ∧ (∀ p ∈ ps, p.depth ≤ 50) ∧
  ∀ q, H q = none → Q (.ref q) (upd H q (.lst (((xs.zip ps).mergeSort leP).map (·.1))))
theorem each_rel : ∀ {xs : List V} {us : List Value} {ps : List PyData}, Vals xs us → xs.length = ps.length → PySem.W.EachIs (fun (u : Value) (b : V × PyData) => RelV b.1 u) us (xs.zip ps)
  | [], us, [], r, _ => by cases r; exact .nil
  | x :: xs, us, p :: ps, r, e => by
    cases r with
    | cons h r => exact .cons h (each_rel r (by simpa using e))
theorem each_vals : ∀ {us : List Value} {bs : List (V × PyData)}, PySem.W.EachIs (fun (u : Value) (b : V × PyData) => RelV b.1 u) us bs → Vals (bs.map (·.1)) us
  | _, _, .nil => .nil
  | _, _, .cons h r => .cons h (each_vals r)
theorem dpAll_len {H : Hp} : ∀ {xs : List V} {ps : List PyData}, DpAll K H xs ps → xs.length = ps.length
  | _, _, .nil => rfl
  | _, _, .cons _ r => by rw [List.length_cons, List.length_cons, dpAll_len r]
theorem cr_sortedData {X : Cx} {K : Fg} (hu : X.A.units + 64 < cLine) (h : X.K = K := by rfl) : CallR X (.builtin "sorted") (rSortedData K) := by
  subst h
  intro pins s σ H vs us Q I r h
  obtain ⟨a, xs, ps, rfl, hs, hd, hal, hso, hdp, q⟩ := h
  obtain ⟨its, rv, hl, hz⟩ := I.list hs
  obtain ⟨u, rfl, ru⟩ := vals1 r
  obtain rfl : u = Value.ref a := ru
  have hlen := dpAll_len hd
  have hps : (xs.zip ps).map Prod.snd = ps := List.map_snd_zip (by omega)
  obtain ⟨as, rd⟩ := Dp.readsAll I ps xs its hd rv
  have hb : (xs.zip ps).length = xs.length := by rw [List.length_zip, hlen]; omega
  refine PySem.W.sorted_data (bs := xs.zip ps) (enc := Prod.snd) (R := fun (u : Value) (b : V × PyData) => RelV b.1 u) hl.isList (each_rel rv hlen) (PySem.W.readsAll_each (as := as) Prod.snd (by rw [hps]; exact rd)) (by rw [hps]; exact hal) (by rw [hps]; exact hso) (by rw [hb]; exact hz) (fun b hm => ?_) fun out ho eo => ?_
  · have := hdp b.2 (List.of_mem_zip hm).2
    omega
  · have hv := each_vals eo
    refine ⟨.ref (s.heap.objs.size + 1), upd H (s.heap.objs.size + 1) (.lst (((xs.zip ps).mergeSort leP).map (·.1))), I.laid (t' := s.toks) (fun b o e => PyProof.Rows.sortedAll_old e) (Nat.le_succ _) ⟨?_, out, ?_⟩, rfl, q _ (I.hok.fresh (Nat.le_succ _))⟩
    · rw [List.length_map, List.length_mergeSort, hb]
      exact hz
    · obtain ⟨n, e⟩ := PyProof.Rows.sortedAll_at s.heap its (List.toArray out)
      exact ⟨n, hv, e⟩
open Classical in
noncomputable def fSorted : List D → Option X
  | [.lst ds] => match D.pyA ds with
    | some ps => if PySem.W.AllAlike ps ∧ PySem.W.Sortable ps ∧ ∀ p ∈ ps, p.depth ≤ 50 then some (.new (.lst (((ds.zip ps).mergeSort leP).map (·.1)))) else none
    | none => none
  | _ => none
theorem pyA_len : ∀ {ds : List D} {ps : List PyData}, D.pyA ds = some ps → ds.length = ps.length
  | [], _, e => by cases e; rfl
  | d :: ds, _, e => by
    obtain ⟨p, r, rfl, e1, e2⟩ := pyA_cons e
    rw [List.length_cons, List.length_cons, pyA_len e2]
theorem sort_rep {vs : List V} {ds : List D} {ps : List PyData} (r : RepA K G vs ds) (hl : ds.length = ps.length) : RepA K G (((vs.zip ps).mergeSort leP).map (·.1)) (((ds.zip ps).mergeSort leP).map (·.1)) := by
  have key : ∀ {vs : List V} {ds : List D} {ps : List PyData}, RepA K G vs ds → ds.length = ps.length → ∃ L : List ((V × D) × PyData), L.map (fun t => (t.1.1, t.2)) = vs.zip ps ∧ L.map (fun t => (t.1.2, t.2)) = ds.zip ps ∧ ∀ t ∈ L, Rep K G t.1.1 t.1.2 := by
    intro vs ds ps r
    induction vs generalizing ds ps with
    | nil =>
      cases r
      intro _
      exact ⟨[], rfl, rfl, fun t h => by cases h⟩
    | cons v vs ih =>
      cases r with
      | @cons _ _ d ds h r =>
        intro hl
        cases ps with
        | nil => cases hl
        | cons p ps =>
          obtain ⟨L, h1, h2, h3⟩ := ih r (by simpa using hl)
          refine ⟨((v, d), p) :: L, by rw [List.map_cons, h1]; rfl, by rw [List.map_cons, h2]; rfl, fun t ht => ?_⟩
          rcases List.mem_cons.mp ht with rfl | ht
          · exact h
          · exact h3 t ht
  obtain ⟨L, h1, h2, h3⟩ := key r hl
  rw [← h1, ← h2]
  have e1 : (L.map fun t => (t.1.1, t.2)).mergeSort leP = (L.mergeSort leP).map fun t => (t.1.1, t.2) := (List.map_mergeSort (r := leP) (s := leP) (f := fun t : (V × D) × PyData => (t.1.1, t.2)) (fun a _ b _ => rfl)).symm
  have e2 : (L.map fun t => (t.1.2, t.2)).mergeSort leP = (L.mergeSort leP).map fun t => (t.1.2, t.2) := (List.map_mergeSort (r := leP) (s := leP) (f := fun t : (V × D) × PyData => (t.1.2, t.2)) (fun a _ b _ => rfl)).symm
  rw [e1, e2]
  have h4 : ∀ t ∈ L.mergeSort leP, Rep K G t.1.1 t.1.2 := fun t ht => h3 t ((List.mem_mergeSort).mp ht)
  generalize L.mergeSort leP = M at h4
  induction M with
  | nil => exact .nil
  | cons t M ih => exact .cons (h4 t (List.mem_cons_self ..)) (ih fun t ht => h4 t (List.mem_cons_of_mem _ ht))
theorem C_sorted : CallS K (rSortedData K) fSorted := by
  intro F G H σ ρ vs ds z Q R hx ez q
  unfold fSorted at ez
  split at ez
  · split at ez
    · rename_i ps ep
      split at ez
      · rename_i hc
        cases ez
        obtain ⟨v, rfl, h⟩ := hx.one
        obtain ⟨a, ws, rfl, h, r⟩ := h.lst R.gh
        refine ⟨a, ws, ps, rfl, .inl (.inl h), (r.mono R.gh).dp ep, hc.1, hc.2.1, hc.2.2, fun p np => ?_⟩
        obtain ⟨R2, r2⟩ := newL R np (sort_rep r (pyA_len ep))
        exact q _ _ _ R2 (Same.refl G) r2
      · cases ez
    · cases ez
  · cases ez
section
variable {E' : XK} {C : Addr} {g : Str} {n m i : Nat} {T : En → SR} {ta tb : TE} {t : TA} {A B : En → Res X} {As : En → Res (List X)} {x qual : Str} {st : Stmt} {f : Addr} {N ps : List Str} {k : Nat}
theorem Lz_call (ha : LA K E0 t As) : LE K E0 (tCallR (spD0 K n m T) E' t) (dCall n m T As) := L_call ha
theorem Lz_lend (ha : LA K E0 t As) : LE K E0 (tCallR (spD0 K n m T) E' (tCons (tVar i) t)) (dLend n m T i As) := L_lend ha
theorem Lz_meth (ha : LE K E0 ta A) (hb : LA K E0 t As) : LE K E0 (DD.tMethR C g (spD0 K n m T) E' ta t) (dMeth C g n m T A As) := L_meth ha hb
theorem Lz_make (ha : LA K E0 t As) : LE K E0 (StX.tMakeR C (spD0 K n m T) E' t) (dMake C n m T As) := L_make ha
/-- a def without defaults -/
theorem mkDz (F : ∃ fd, Fun K x qual st f fd) (S : FnScope N ps (defScope st)) (hN : ps.length ≤ N.length)
    (hb : ∀ (kV doc pm : Value) (an : Option Addr) (cdv ct : Value) (us : List Value), us.length = ps.length → bindArgs (PySem.W.fnOf x qual (defArgs st) (defBody st) (defScope st) .none kV doc pm an cdv ct) ⟨us, []⟩ = pure (ps.zip us))
    (hbody : ∀ (cdv : Value) (A : Around) (outer : List Env) (s : Shared) (H : Hp) (E : XK), Room k (A.deeper (envOfC qual (defScope st) s.heap.objs.size f cdv)) →
      ∃ t, PSs (cxOf CX0 P w K mg base N qual (defScope st) f cdv A outer s H E).nox (defBody st) t ∧ LS K E0 t T) : FnR P w K mg base CX0 (k + 1) f (spD0 K ps.length N.length T) := by
  obtain ⟨fd, F⟩ := F
  have G : FnOk P w K mg base CX0 (k + 1) f fd ps (spD0 K ps.length N.length T) := F.ok S (fun vs H Q E h => spD_len h) fun cdv A outer s H vs Q E hr hs => by
    obtain ⟨t, h1, h2⟩ := hbody cdv A outer s H E hr
    exact ⟨t, h1, spD_run hN h2 hs⟩
  refine (G.raw (F.binds hb) .nil).imp fun vs H Q E h => ?_
  rw [List.append_nil]
  exact h
end
def spLaw (K : Fg) : Sp := fun vs H Q _ => ∃ (a : Addr) (ns : List Int), vs = [.ref a] ∧ SqL K H a (ns.map V.int) ∧ ns.length ≤ 63 ∧ ∀ H', Q (.bl true) H'
/-- what is left: the law's run upon data -/
def LawOk (m : Nat) (T : En → SR) : Prop := ∀ ns : List Int, ns.length ≤ 63 → ∃ ρ, fin (T (env0 m [.val (.scr (ns.map D.int))])) = .ok (.val (.bl true)) ρ
theorem law_run {E : XK} {N : List Str} {T : En → SR} {t : TS} {vs : List V} {Q : VK} (hN : 1 ≤ N.length) (h : LS K E0 t T) (hl : LawOk N.length T) (hs : spLaw K vs H Q E) : t { nx := fun _ H' => Q .non H', rt := Q } (start N vs) H := by
  obtain ⟨a, ns, rfl, hS, hn, q⟩ := hs
  obtain ⟨ρ, e⟩ := hl ns hn
  refine spD_run (n := 1) hN h ⟨H, Same.refl H, .inl ⟨[.scr (ns.map D.int)], .one (.scr hS .ofInts), rfl, ?_⟩⟩
  show Out K E0 H H none Q (fin (T (env0 N.length [.val (.scr (ns.map D.int))])))
  rw [e]
  intro v G' H' _ hx
  cases hx
  exact q H'
end
end DL
set_option Elab.async false
set_option linter.all false
set_option maxRecDepth 100000
set_option maxHeartbeats 2000000
namespace DD
open PySem PySem.Spec PyProof.Rows L2
def scriptO (vs : List Value) : Obj := { cls := .type "list", data := .seq vs.toArray }
/-- either nothing is tracked, or the script alone -/
def Script (K : PySem.W.Frag) (H : Hp) (a : Addr) (o : Obj) (xs : List V) : Prop := ∀ b, H b = none ∨ (b = a ∧ H b = some (.frz o (.lst xs)) ∧ K.lookup a = none)
section
variable {P : Program} {w : World} {K : PySem.W.Frag} {mg mb : Str → Option Value} {k : Nat} {fa a : Addr} {fd : FuncData} {x : Str} {sp : Sp} {s : Shared} {vs : List Value} {ns : List Int} {H : Hp}
theorem script_core (inK : K.In s.heap) (nsG : s.heap.Ns mainGlobals mg) (nsB : s.heap.Ns builtinsNs mb) (boot : ∀ x : Str, x ≠ "__name__" → mb x = bootBuiltins x) (lim : s.heap.NoLimit) (gens : s.gens = #[]) (at_ : s.heap.get? a = some (scriptO vs))
    (room : Room k callerA) (F : ∀ base : Heap, K.In base → base.Ns mainGlobals mg → FnG P w K mg base k fa fd [x] sp) (binds : ∀ (s : Shared) (u : Value), BindsTo s fd ⟨[u], []⟩ [(x, u)])
    (alone : Script K H a (scriptO vs) (ns.map V.int)) (hok : HOk P w H s.heap) (h : sp [.ref a] H (fun v _ => v = .bl true) fun _ _ _ => False) :
    codeAny (model P w) callerA (.call (.ref fa) ⟨[.ref a], []⟩) (fun r s' => r = .ok (.ret (.bool true)) ∧ OldK s.heap s'.heap ∧ s'.os = s.os ∧ AllBare s'.gens) s := by
  have keepNs : ∀ {b : Addr} {m : Str → Option Value}, s.heap.Ns b m → (hidT s.heap H).Ns b m := by
    rintro b m ⟨o, es, ep, e, dat, r⟩
    refine ⟨o, es, ep, hidT_get e ?_, dat, r⟩
    rcases alone b with z | ⟨rfl, -, -⟩
    · exact z
    · rw [at_] at e
      cases e
      cases (show Data.seq vs.toArray _ = Data.dict es ep from dat)
  have keepK : K.In (hidT s.heap H) := fun b o e => hidT_get (inK b o e) <| by
    rcases alone b with z | ⟨rfl, -, z⟩
    · exact z
    · rw [e] at z
      cases z
  have mod : Mod K mg (hidT s.heap H) := by
    obtain ⟨mc, l1, l2⟩ := lim
    exact ⟨keepK, keepNs nsG, ⟨mb, keepNs nsB, boot⟩, ⟨mc, keepNs l1, l2⟩⟩
  have env : Env0 P w K mg (hidT s.heap H) callerA [] s H :=
    { frames := rfl, mod := mod, bs := fun b o e => of_hidT e, bsz := Nat.le_of_eq (hidT_size _ _), funs := trivial, frf := fun b z => absurd (show b ∈ ([] : List Addr) from z) (by simp), hok := hok, bare := .of_eq gens }
  refine codeAny_mono (F _ keepK (keepNs nsG) callerA [] s H _ [.ref a] [.ref a] _ _ room rfl env (binds s (.ref a)) (.cons rfl .nil) h) fun r s' z => ?_
  match r, z with
  | .ok (.ret u), ⟨v, H', os, bare, un, hok', rv, ev⟩ =>
    have ev' : v = .bl true := ev
    subst ev'
    obtain rfl : u = Value.bool true := rv
    refine ⟨rfl, OldK.of_keep fun b o e => ?_, os, bare⟩
    rcases alone b with z | ⟨rfl, z, -⟩
    · exact un.keep b o e z (by intro y; exact absurd (show b ∈ ([] : List Addr) from y) (by simp)) (by simp)
    · have t := (hok' b _ (un.frzs b _ _ z)).1
      rw [at_] at e
      cases e
      exact t
theorem script_run (inK : K.In s.heap) (nsG : s.heap.Ns mainGlobals mg) (nsB : s.heap.Ns builtinsNs mb) (boot : ∀ x : Str, x ≠ "__name__" → mb x = bootBuiltins x) (lim : s.heap.NoLimit) (gens : s.gens = #[]) (at_ : s.heap.get? a = some (scriptO vs))
    (nums : IntsAre vs ns) (size : ns.length ≤ sizeLine) (room : Room k callerA) (F : ∀ base : Heap, K.In base → base.Ns mainGlobals mg → FnG P w K mg base k fa fd [x] sp) (binds : ∀ (s : Shared) (u : Value), BindsTo s fd ⟨[u], []⟩ [(x, u)])
    (h : ∀ H : Hp, Only H → SqL K H a (ns.map V.int) → sp [.ref a] H (fun v _ => v = .bl true) fun _ _ _ => False) :
    codeAny (model P w) callerA (.call (.ref fa) ⟨[.ref a], []⟩) (fun r s' => r = .ok (.ret (.bool true)) ∧ OldK s.heap s'.heap ∧ s'.os = s.os ∧ AllBare s'.gens) s := by
  have rv := vals_ints nums
  have len := nums.length
  cases e : K.lookup a with
  | some o =>
    have o' := inK a o e
    rw [at_] at o'
    cases o'
    have hs : SqL K (fun _ => none) a (ns.map V.int) := .inr ⟨_, vs.toArray, _, e, rfl, rfl, rfl, by rw [List.size_toArray, len]; exact size, by simpa using rv⟩
    exact script_core (ns := ns) (H := fun _ => none) inK nsG nsB boot lim gens at_ room F binds (fun b => .inl rfl) (fun b u z => nomatch z) (h _ (fun _ => .inl rfl) hs)
  | none =>
    have hs : SqL K (upd (fun _ => none) a (.frz (scriptO vs) (.lst (ns.map V.int)))) a (ns.map V.int) := .inl (.inr ⟨scriptO vs, upd_same⟩)
    have al : Script K (upd (fun _ => none) a (.frz (scriptO vs) (.lst (ns.map V.int)))) a (scriptO vs) (ns.map V.int) := fun b => by
      by_cases hb : b = a
      · exact .inr ⟨hb, by rw [hb]; exact upd_same, e⟩
      · exact .inl (by rw [upd_ne hb])
    refine script_core (H := upd (fun _ => none) a (.frz (scriptO vs) (.lst (ns.map V.int)))) inK nsG nsB boot lim gens at_ room F binds al (fun b u z => ?_) (h _ (fun b => (al b).imp id fun y => ⟨_, _, y.2.1⟩) hs)
    by_cases hb : b = a
    · subst hb
      rw [upd_same] at z
      cases z
      exact ⟨at_, by rw [List.length_map]; exact size, vs, _, rv, at_⟩
    · rw [upd_ne hb] at z
      cases z
end
theorem walk_ofG {l : PySem.W.OpenLaw} {n k : Nat} {q : Program} {loose : List Str} {XP : (Str → Option Value) → Heap → Prop} {YP : World → Heap → Prop} {d : DefRec} {K : Params → PySem.W.Frag} {sp : PySem.W.Frag → Sp} {x : Str}
    (hn : l.most = some n) (hn2 : n ≤ sizeLine) (hdf : d.params.defaults = []) (hr : Room k callerA)
    (hY : ∀ (w : World) (h : Heap), YP w h → (K w.params).In h)
    (F : ∀ (w : World) (mg : Str → Option Value) (fa : Addr) (h : Heap), (K w.params).In h → h.Ns mainGlobals mg → mg d.name = some (.ref fa) →
      ∃ fd : FuncData, (∀ (s : Shared) (u : Value), BindsTo s fd ⟨[u], []⟩ [(x, u)]) ∧ ∀ base : Heap, (K w.params).In base → base.Ns mainGlobals mg → FnG l.prog w (K w.params) mg base k fa fd [x] (sp (K w.params)))
    (hsp : ∀ (K : PySem.W.Frag) (H : Hp) (a : Addr) (ns : List Int), ns.length ≤ n → Only H → SqL K H a (ns.map V.int) → sp K [.ref a] H (fun v _ => v = .bl true) fun _ _ _ => False) :
    PySem.W.WalkO q loose XP YP l.row.toRowW d [] (fun f vs => PySem.call f vs) := by
  refine Att.attach_call hn hdf fun w s₀ s₁ mg mb fa o pm cd doc a vs ns G Y ho hd hcd hmg hobj hints hlen hg => ?_
  obtain ⟨fd, binds, hF⟩ := F w mg fa _ (hY w _ Y) G.T.g hmg
  exact script_run (hY w _ Y) G.T.g G.T.b G.T.builtins G.T.nolimit hg hobj hints (Nat.le_trans hlen hn2) hr hF binds fun H hO hS => hsp (K w.params) H a ns hlen hO hS
/-- the rule for a def, by its body, where the guards are known -/
theorem fun_okG {P : Program} {w : World} {K : PySem.W.Frag} {mg : Str → Option Value} {base : Heap} {x qual : Str} {st : Stmt} {f : Addr} {fd : FuncData} {N ps : List Str} {k : Nat} {sp : Sp} (F : Fun K x qual st f fd) (S : FnScope N ps (defScope st)) (len : ∀ vs H Q E, sp vs H Q E → vs.length = ps.length)
    (hbody : ∀ (cdv : Value) (A : Around) (outer : List Env) (s : Shared) (H : Hp) (vs : List V) (Q : VK) (E : XK), Room k (A.deeper (envOfC qual (defScope st) s.heap.objs.size f cdv)) → (A.deeper (envOfC qual (defScope st) s.heap.objs.size f cdv)).guards = some [] → sp vs H Q E →
      ∃ t, PSs (cxOf CX0 P w K mg base N qual (defScope st) f cdv A outer s H E).nox (defBody st) t ∧ t { nx := fun _ H' => Q .non H', rt := Q } (start N vs) H) : FnG P w K mg base (k + 1) f fd ps sp := by
  obtain ⟨oc, od, kV, doc, pm, an, cdv, ct, osl, rfl, lk, hcd⟩ := F.ex
  exact fnG_of lk hcd S len fun A outer s H vs Q E hr hg h => hbody cdv A outer s H vs Q E hr hg h
end DD
set_option Elab.async false
set_option linter.all false
set_option maxRecDepth 100000
set_option maxHeartbeats 2000000
namespace DL
open PySem PySem.Spec PyProof.Rows L2 DD
section
variable {K : Fg} {E : XK} {F : Fm} {G G' H H' : Hp} {σ σ' : L2.St} {ρ ρ' : En} {ta tb : TE} {A B : En → Res X} {t : TA} {T : En → Res (List X)}
open Classical in
noncomputable def rng3D : List D → Option (List D)
  | [.int i, .int j, .int c] => if RgC i j c (Builtin.Range.rangeSize i j c).toNat then some ((List.range (Builtin.Range.rangeSize i j c).toNat).map fun n => D.int (i + (n : Nat) * c)) else none
  | _ => none
noncomputable def dRng3 (T : En → Res (List X)) : En → Res (List D) := fun ρ => (T ρ).bind fun xs ρ1 => lift ((derefs ρ1 xs).bind rng3D) ρ1
def enumD : Nat → List D → List D
  | _, [] => []
  | i, d :: ds => .tup [.int (i : Nat), d] :: enumD (i + 1) ds
theorem enumD_get : ∀ {ds : List D} {k i : Nat}, (enumD k ds)[i]? = (ds[i]?).map fun d => D.tup [.int ((k + i : Nat) : Int), d]
  | [], k, i => by simp [enumD]
  | d :: ds, k, 0 => by simp [enumD]
  | d :: ds, k, i + 1 => by
    have := enumD_get (ds := ds) (k := k + 1) (i := i)
    simp only [enumD, List.getElem?_cons_succ, this]
    rw [show k + 1 + i = k + (i + 1) by omega]
theorem enumD_len : ∀ {ds : List D} {k : Nat}, (enumD k ds).length = ds.length
  | [], _ => rfl
  | d :: ds, k => by simp [enumD, enumD_len (ds := ds)]
theorem its_enum {G1 : Hp} {a : Addr} {vs : List V} {ds : List D} (h : ∀ G H, Same G1 G → Same G H → SqL K H a vs) (r : RepA K G1 vs ds) : Its K (fun _ => True) G1 (Ite K a) (enumD 0 ds) where
  go := fun G H e k p i hi => by
    have hi' : i < vs.length := by rw [enumD_len] at hi; rw [r.len]; exact hi
    exact ⟨vs, _, h G H e k, List.getElem?_eq_getElem hi'⟩
  stop := fun G H e k p i hi => ⟨vs, h G H e k, by rw [enumD_len] at hi; rw [r.len]; exact hi⟩
  yld := fun F G H σ ρ R e p i x H' hi hy => by
    obtain ⟨T, y, rfl, hT, rfl, hq⟩ := hy
    have hv := hq vs (h G H e R.gh)
    obtain ⟨d, h1, h2⟩ := r.get' hv
    obtain ⟨R2, s2, r2⟩ := newT R hT (.cons (.int (i : Nat)) (.one (h2.mono e)))
    refine ⟨_, R2, s2, fun _ _ => .inr trivial, smNew hT, _, ?_, r2⟩
    rw [enumD_get, h1]
    simp
end
def zipD : List D → List D → List D
  | d :: ds, e :: es => .tup [d, e] :: zipD ds es
  | _, _ => []
theorem zipD_get : ∀ {ds es : List D} {i : Nat}, (zipD ds es)[i]? = (ds[i]?).bind fun d => (es[i]?).map fun e => D.tup [d, e]
  | [], es, i => by simp [zipD]
  | d :: ds, [], i => by
    simp [zipD]
  | d :: ds, e :: es, 0 => by simp [zipD]
  | d :: ds, e :: es, i + 1 => by
    have := zipD_get (ds := ds) (es := es) (i := i)
    simpa [zipD] using this
theorem zipD_len : ∀ {ds es : List D}, (zipD ds es).length = min ds.length es.length
  | [], es => by simp [zipD]
  | d :: ds, [] => by simp [zipD]
  | d :: ds, e :: es => by simp [zipD, zipD_len (ds := ds) (es := es), Nat.succ_min_succ]
section
variable {K : Fg} {E : XK} {F : Fm} {G G' H H' : Hp} {σ σ' : L2.St} {ρ ρ' : En} {ta tb : TE} {A B : En → Res X} {t : TA} {T : En → Res (List X)}
def itemsX (ρ : En) : X → Option (List D)
  | .val d => d.items
  | .new o => o.d.items
  | .own i => match ρ[i]? with
    | some (.val d) => d.items
    | _ => none
def aStar (A : En → Res X) (T : En → Res (List X)) : En → Res (List X) := fun ρ => (A ρ).bind fun a ρ1 => match itemsX ρ1 a with
  | some ds => (T ρ1).bind fun xs ρ2 => .ok (ds.map X.val ++ xs) ρ2
  | none => .stuck
theorem repXs_vals : ∀ {vs : List V} {ds : List D}, RepA K G vs ds → RepXs K F G H σ ρ vs (ds.map X.val)
  | _, _, .nil => .nil
  | _, _, .cons h r => .cons h (fun _ e => by cases e) (repXs_vals r)
theorem RepXs.app : ∀ {vs ws : List V} {xs ys : List X}, RepXs K F G H σ ρ vs xs → RepXs K F G H σ ρ ws ys → RepXs K F G H σ ρ (vs ++ ws) (xs ++ ys)
  | _, _, _, _, .nil, h => h
  | _, _, _, _, .cons h n r, h' => .cons h n (RepXs.app r h')
theorem items_sq {v : V} {d : D} {ds : List D} (R : Rl K F G H σ ρ) (h : Rep K G v d) (e : d.items = some ds) : ∃ a vs, v = .ref a ∧ (SqT K H a vs ∨ SqL K H a vs) ∧ RepA K G vs ds := by
  cases h with
  | tup g r => cases e; exact ⟨_, _, rfl, .inl (smTup R.gh g), r⟩
  | lst g r => cases e; exact ⟨_, _, rfl, .inr (.inl (.inl (R.gh _ _ g))), r⟩
  | scr g r => cases e; exact ⟨_, _, rfl, .inr (smLst R.gh g), r⟩
  | _ => cases e
theorem A_star (ha : LE K E ta A) (ht : LA K E t T) : LA K E (StX.tStar K ta t) (aStar A T) := by
  intro F G H σ ρ Q R w
  refine ha F G H σ ρ _ R (Wants.bind w fun v a G1 H1 ρ1 R1 s1 hx w1 => ?_)
  have fz : ∀ {G2 : Hp} {d : D} {ds : List D}, Rl K F G2 H1 σ ρ1 → Rep K G2 v d → d.items = some ds → Wants K E (fun F G H σ ρ vs xs => RepXs K F G H σ ρ vs xs) F G2 σ Q ((T ρ1).bind fun xs ρ2 => .ok (ds.map X.val ++ xs) ρ2) → ∃ p xs, v = V.ref p ∧ (SqT K H1 p xs ∨ SqL K H1 p xs) ∧ t σ H1 fun ys H2 => Q (xs ++ ys) H2 := by
    intro G2 d ds R2 hr e w2
    obtain ⟨p, vs, rfl, hs, hv⟩ := items_sq R2 hr e
    refine ⟨p, vs, rfl, hs, ht F G2 H1 σ ρ1 _ R2 (w2.bind fun ys b G3 H3 ρ3 R3 s3 hy w3 => ?_)⟩
    exact w3 _ G3 H3 R3 (Same.refl G3) (RepXs.app (repXs_vals (hv.mono s3)) hy)
  cases a with
  | val d =>
    cases e : itemsX ρ1 (.val d) with
    | none => rw [e] at w1; exact w1.elim
    | some ds => rw [e] at w1; exact fz R1 hx e w1
  | new o =>
    obtain ⟨G2, R2, s2, r2⟩ := R1.settle hx
    cases e : itemsX ρ1 (.new o) with
    | none => rw [e] at w1; exact w1.elim
    | some ds => rw [e] at w1; exact fz R2 r2 e (w1.mono s2)
  | own i =>
    cases e : itemsX ρ1 (.own i) with
    | none => rw [e] at w1; exact w1.elim
    | some ds =>
      rw [e] at w1
      dsimp only [itemsX] at e
      cases e' : ρ1[i]? with
      | none => rw [e'] at e; cases e
      | some t =>
        rw [e'] at e
        cases t <;> try cases e
        rename_i d
        obtain ⟨v', h1, h2⟩ := R1.val e'
        rw [show σ[i]? = some (some v) from hx] at h1
        cases h1
        exact fz R1 h2 e w1
theorem pa_starK {X : Cx} {K : Fg} {e : Expr} {te : TE} {es : List Expr} {t : TA} {p : Pos} (he : PE X e te) (hr : PA X es t) (h : X.K = K := by rfl) (hs : starEach (.Starred e p :: es) X.env = (true, eval e X.env) :: starEach es X.env := by rfl) : PA X (.Starred e p :: es) (StX.tStar K te t) := h ▸ StX.pa_star he hr hs
end
end DL
set_option Elab.async false
set_option linter.all false
set_option maxRecDepth 100000
set_option maxHeartbeats 2000000
namespace DD
open PySem PySem.Spec PyProof.Rows L2
end DD
set_option Elab.async false
set_option linter.all false
set_option maxRecDepth 100000
set_option maxHeartbeats 2000000
namespace DD
open PySem PySem.Spec PyProof.Rows L2
end DD
set_option Elab.async false
set_option linter.all false
set_option maxRecDepth 100000
set_option maxHeartbeats 2000000
namespace DD
open PySem PySem.Spec PyProof.Rows L2
/-- a promise by n positional values and the values of the keywords ks -/
structure FnK (P : Program) (w : World) (K : PySem.W.Frag) (mg : Str → Option Value) (base : Heap) (CX : CXT) (k : Nat) (f : Addr) (n : Nat) (ks : List Str) (sp : Sp) : Prop where
  len : ∀ vs H Q E, sp vs H Q E → vs.length = n + ks.length
  run : ∀ (A : Around) (outer : List Env) (s : Shared) (H : Hp) (us ws : List Value) (vs zs : List V) (Q : VK) (E : XK), Room k A → Env0 P w K mg base A outer s H → Vals vs us → Vals zs ws → vs.length = n → zs.length = ks.length → sp (vs ++ zs) H Q E →
    codeAny (model P w) A (.call (.ref f) ⟨us, ks.zip ws⟩) (CR CX outer P w H s Q E) s
section
variable {P : Program} {w : World} {K : PySem.W.Frag} {mg : Str → Option Value} {base : Heap} {CX : CXT} {j k n : Nat} {f : Addr} {sp sp' : Sp} {ks : List Str}
theorem FnK.mono (F : FnK P w K mg base CX j f n ks sp) (h : j ≤ k) : FnK P w K mg base CX k f n ks sp := ⟨F.len, fun A outer s H us ws vs zs Q E hr => F.run A outer s H us ws vs zs Q E (hr.mono h)⟩
end
end DD
set_option Elab.async false
set_option linter.all false
set_option maxRecDepth 100000
set_option maxHeartbeats 2000000
namespace DD
open PySem PySem.Spec PyProof.Rows L2
end DD
set_option Elab.async false
set_option linter.all false
set_option maxRecDepth 100000
set_option maxHeartbeats 2000000
namespace DL
open PySem PySem.Spec PyProof.Rows L2 DD
def pick {α : Type} (d : α) (l : List α) (π : List Nat) : List α := π.map fun i => l.getD i d
@[simp] theorem pick_nil {α : Type} (d : α) (l : List α) : pick d l [] = [] := rfl
@[simp] theorem pick_cons {α : Type} (d : α) (l : List α) (i : Nat) (π : List Nat) : pick d l (i :: π) = l.getD i d :: pick d l π := rfl
/-- the arguments in the parameters' order, the defaults dd among them -/
@[simp] def permD (n : Nat) (dd : List D) (π : List Nat) (ρ : En) : En := env0 ρ.length (pick Slot.none (ρ.take n ++ dd.map Slot.val) π)
end DL
set_option Elab.async false
set_option linter.all false
set_option maxRecDepth 100000
set_option maxHeartbeats 2000000
namespace DL
open PySem PySem.Spec PyProof.Rows L2 DD
@[simp] def slD : En → List D
  | [] => []
  | .val d :: r => d :: slD r
  | _ :: _ => []
/-- p.but(k = v, ..): Rule(..) of the five, those with a place beyond 4 told by name -/
@[simp] def dBut (C : Addr) (m : Nat) (Ti : En → SR) (π : List Nat) : En → SR := fun ρ => match ρ with
  | .val (.ins C' ks es) :: zs => if C' = C then match getF "step" ks es, getF "gap" ks es, getF "least" ks es, getF "private" ks es, getF "hours" ks es with
    | some d1, some d2, some d3, some d4, some d5 => match makeV (fin (Ti (env0 m (.bor (.ins C [] []) :: (pick .non ([d1, d2, d3, d4, d5] ++ slD zs) π).map .val)))) ρ with
      | .ok x ρ' => .rt x ρ'
      | .err x ρ' => .err x ρ'
      | .stuck => .stuck
    | _, _, _, _, _ => .stuck
  else .stuck
  | _ => .stuck
end DL
set_option Elab.async false
set_option linter.all false
set_option maxRecDepth 100000
set_option maxHeartbeats 2000000
namespace DL
open PySem PySem.Spec PyProof.Rows L2 DD
def pickS (xs : List D) (lo hi : Option Int) (st : Int) : List D :=
  (sliceRange (sliceBounds lo hi (some st) xs.length).1 (sliceBounds lo hi (some st) xs.length).2.1 (sliceBounds lo hi (some st) xs.length).2.2).filterMap (xs[·]?)
def opSl3 (st : Int) : D → Option Int → Option Int → Option X
  | .lst ds, lo, hi => if (pickS ds lo hi st).length ≤ sizeLine then some (.new (.lst (pickS ds lo hi st))) else none
  | _, _, _ => none
def dSl3 (st : Int) (A : En → Res X) (L U : En → Res (Option Int)) : En → Res X := fun ρ => (A ρ).bind fun a ρ1 => (L ρ1).bind fun lo ρ2 => (U ρ2).bind fun hi ρ3 => match deref ρ3 a.settle with
  | some d => lift (opSl3 st d lo hi) ρ3
  | none => .stuck
@[simp] def uLst (n : Nat) (Us : Tgs) : Tg := fun d ρ => match d with
  | .lst ds => if ds.length = n then Us ds ρ else none
  | _ => none
def dEqOS (C : Addr) (m : Nat) (T : En → SR) (A B : En → Res X) : En → Res X := fun ρ => (A ρ).bind fun a ρ1 => (B ρ1).bind fun b ρ2 => match toVal ρ2 a.settle with
  | some (.ins C' ks es, ρ3) => match toVal ρ3 b.settle with
    | some (.str z, ρ4) => if C' = C then callP xBl (fin (T (env0 m [.val (D.ins C' ks es), .val (D.str z)]))) ρ4 else .stuck
    | _ => .stuck
  | _ => .stuck
end DL
set_option Elab.async false
set_option linter.all false
set_option maxRecDepth 100000
set_option maxHeartbeats 2000000
namespace DL
open PySem PySem.Spec PyProof.Rows L2 DD
def dIxO (C : Addr) (m : Nat) (T : En → SR) (A B : En → Res X) : En → Res X := fun ρ => (A ρ).bind fun a ρ1 => (B ρ1).bind fun b ρ2 => match toVal ρ2 a.settle with
  | some (.ins C' ks es, ρ3) => match toVal ρ3 b.settle with
    | some (z, ρ4) => if C' = C then callV (fin (T (env0 m [.val (D.ins C' ks es), .val z]))) ρ4 else .stuck
    | none => .stuck
  | _ => .stuck
end DL
set_option Elab.async false
set_option linter.all false
set_option maxRecDepth 100000
set_option maxHeartbeats 2000000
namespace DD
open PySem PySem.Spec PyProof.Rows L2 HT
end DD
set_option Elab.async false
set_option linter.all false
set_option maxRecDepth 100000
set_option maxHeartbeats 2000000
namespace DL
open PySem PySem.Spec PyProof.Rows L2 DD
end DL
set_option Elab.async false
set_option linter.all false
set_option maxRecDepth 100000
set_option maxHeartbeats 2000000
namespace DD
open PySem PySem.Spec PyProof.Rows L2
end DD
set_option Elab.async false
set_option linter.all false
set_option maxRecDepth 100000
set_option maxHeartbeats 2000000
namespace DL
open PySem PySem.Spec PyProof.Rows L2 DD
def WSW (K : Fg) (W : WX) (F : Fm) (D : Ends) : SR → Prop
  | .nx ρ => ∀ σ G H, Rl K F G H σ ρ → D.nx σ H
  | .rt x ρ => ∀ v σ G H, Rl K F G H σ ρ → RepX K F G H σ ρ v x → D.rt v H
  | .bk ρ => ∀ σ G H, Rl K F G H σ ρ → D.bk σ H
  | .ct ρ => ∀ σ G H, Rl K F G H σ ρ → D.ct σ H
  | .err x ρ => ∀ c od σ G H, Rl K F G H σ ρ → XRep K G H c od x → W c od σ H
  | .stuck => False
def LSW (K : Fg) (W : WX) (t : TS) (T : En → SR) : Prop := ∀ (F : Fm) (G H : Hp) (σ : L2.St) (ρ : En) (D : Ends), Rl K F G H σ ρ → WSW K W F D (T ρ) → t D σ H
/-- an expression's -/
def LEW (K : Fg) (W : WX) (t : TE) (T : En → Res X) : Prop := ∀ (F : Fm) (G H : Hp) (σ : L2.St) (ρ : En) (Q : VK), Rl K F G H σ ρ → Wants K (WE W σ) (RepX K) F G σ Q (T ρ) → t σ H Q
section
variable {α β : Type} {K : Fg} {W : WX} {F : Fm} {G G' H H' : Hp} {σ : L2.St} {ρ ρ' : En} {t u s : TS} {T S U : En → SR} {ta : TE} {A : En → Res X} {tt : TT} {B : En → Res Bool}
theorem WSW.sb {rel : Rel β α} {D : Ends} {Q1 : β → Hp → Prop} {r : Res α} {U : α → En → SR} (h : WSW K W F D (r.sb U))
    (k : ∀ b a G' H' ρ', Rl K F G' H' σ ρ' → Same G G' → rel F G' H' σ ρ' b a → WSW K W F D (U a ρ') → Q1 b H') : Wants K (WE W σ) rel F G σ Q1 r := by
  cases r with
  | ok a ρ' => exact fun b G2 H2 R s q => k b a G2 H2 ρ' R s q h
  | err x ρ' => exact fun c od G2 H2 R _ x => h c od σ G2 H2 R x
  | stuck => exact h
theorem LSW.nx : LSW K W tNext sNext := fun F G H σ ρ D R w => w σ G H R
theorem LSW.seq (h1 : LSW K W s S) (h2 : LSW K W u U) : LSW K W (tSeq s u) (sSeq S U) := by
  intro F G H σ ρ D R w
  refine h1 F G H σ ρ _ R ?_
  unfold sSeq at w
  cases e : S ρ with
  | nx ρ1 =>
    rw [e] at w
    exact fun σ' G' H' R' => h2 F G' H' σ' ρ1 D R' w
  | rt x ρ1 => rw [e] at w; exact w
  | bk ρ1 => rw [e] at w; exact w
  | ct ρ1 => rw [e] at w; exact w
  | err x ρ1 => rw [e] at w; exact w
  | stuck => rw [e] at w; exact w
theorem LSW.drop (ha : LEW K W ta A) : LSW K W (tDrop ta) (sDrop A) := by
  intro F G H σ ρ D R w
  exact ha F G H σ ρ _ R (w.sb fun b a G' H' ρ' R' _ _ w' => w' σ G' H' R')
theorem LSW.ret (ha : LEW K W ta A) : LSW K W (tRet ta) (sRet A) := by
  intro F G H σ ρ D R w
  exact ha F G H σ ρ _ R (w.sb fun b a G' H' ρ' R' _ hx w' => w' b σ G' H' R' hx)
theorem WSW.ws {D : Ends} {r : SR} (h : ∀ x ρ, r ≠ .err x ρ) (w : WSW K W F D r) : WS K E0 F D r := by
  cases r <;> first | exact w | exact (h _ _ rfl).elim
theorem LSW.set {i : Nat} (ha : LEW K W ta A) : LSW K W (tAsg ta (gName i)) (sSet i A) := by
  intro F G H σ ρ D R w
  refine ha F G H σ ρ _ R (w.sb fun b a G' H' ρ' R' _ hx w' => put_run R' hx (WSW.ws (fun x ρ1 => ?_) w'))
  unfold putX
  cases a with
  | val d => dsimp only; split <;> (intro z; cases z)
  | new o => dsimp only; split <;> (intro z; cases z)
  | own j =>
    dsimp only
    split
    · split <;> (intro z; cases z)
    · intro z; cases z
end
/-- the error that is caught: at a, in slot i, its fields in d -/
def HX (K : Fg) (a : Addr) (i : Nat) (x : Xc) (d : Option Addr) (G : Hp) (σ : L2.St) : Prop := σ[i]? = some (some (.ref a)) ∧ ((d = none ∧ x.ks = []) ∨ ∃ e fs, d = some e ∧ G e = some (.xd fs) ∧ fs.map (·.1) = x.ks ∧ RepA K G (fs.map (·.2)) x.ds)
theorem HX.mono {K : Fg} {a : Addr} {i : Nat} {x : Xc} {d : Option Addr} {G G' : Hp} {σ : L2.St} (s : Same G G') (h : HX K a i x d G σ) : HX K a i x d G' σ := by
  obtain ⟨h1, h2⟩ := h
  refine ⟨h1, ?_⟩
  rcases h2 with h2 | ⟨e, fs, e1, e2, e3, e4⟩
  · exact .inl h2
  · exact .inr ⟨e, fs, e1, s _ _ e2, e3, e4.mono s⟩
def LGx {α β : Type} (K : Fg) (a : Addr) (i : Nat) (x : Xc) (d : Option Addr) (rel : Rel β α) (t : L2.St → Hp → (β → Hp → Prop) → Prop) (T : En → Res α) : Prop :=
  ∀ (F : Fm) (G H : Hp) (σ : L2.St) (ρ : En) (Q : β → Hp → Prop), Rl K F G H σ ρ → HX K a i x d G σ → Wants K E0 rel F G σ Q (T ρ) → t σ H Q
section
variable {α β γ δ : Type} {K : Fg} {a : Addr} {i : Nat} {x : Xc} {d : Option Addr} {ta tb : TE} {A B : En → Res X} {t u : TT} {T U : En → Res Bool}
theorem LGx.bind {rel : Rel β α} {rel2 : Rel δ γ} {t : L2.St → Hp → (β → Hp → Prop) → Prop} {T : En → Res α} {k : β → L2.St → Hp → (δ → Hp → Prop) → Prop} {U : α → En → Res γ} (h : LGx K a i x d rel t T)
    (h2 : ∀ F G H σ ρ b z Q, Rl K F G H σ ρ → HX K a i x d G σ → rel F G H σ ρ b z → Wants K E0 rel2 F G σ Q (U z ρ) → k b σ H Q) : LGx K a i x d rel2 (fun σ H Q => t σ H fun b H1 => k b σ H1 Q) (fun ρ => (T ρ).bind U) := by
  intro F G H σ ρ Q R hx w
  exact h F G H σ ρ _ R hx (w.bind fun b z G' H' ρ' R' s q w' => h2 F G' H' σ ρ' b z Q R' (hx.mono s) q w')
end
end DL
set_option Elab.async false
set_option linter.all false
set_option maxRecDepth 100000
set_option maxHeartbeats 2000000
namespace DD
open PySem PySem.Spec PyProof.Rows L2
end DD
set_option Elab.async false
set_option linter.all false
set_option maxRecDepth 100000
set_option maxHeartbeats 2000000
namespace DL
open PySem PySem.Spec PyProof.Rows L2 DD
end DL
set_option Elab.async false
set_option linter.all false
set_option maxRecDepth 100000
set_option maxHeartbeats 2000000
namespace DD
open PySem PySem.Spec PyProof.Rows L2
end DD
set_option Elab.async false
set_option linter.all false
set_option maxRecDepth 100000
set_option maxHeartbeats 2000000
namespace DL
open PySem PySem.Spec PyProof.Rows L2 DD
end DL
set_option Elab.async false
set_option linter.all false
set_option maxRecDepth 100000
set_option maxHeartbeats 2000000
namespace DD
open PySem PySem.Spec PyProof.Rows L2
end DD
set_option Elab.async false
set_option linter.all false
set_option maxRecDepth 100000
set_option maxHeartbeats 2000000
namespace DL
open PySem PySem.Spec PyProof.Rows L2 DD
end DL
set_option Elab.async false
set_option linter.all false
set_option maxRecDepth 100000
set_option maxHeartbeats 2000000
namespace DD
open PySem PySem.Spec PyProof.Rows L2
end DD
set_option Elab.async false
set_option linter.all false
set_option maxRecDepth 100000
set_option maxHeartbeats 2000000
namespace DL
open PySem PySem.Spec PyProof.Rows L2 DD
@[simp] def opNotInT : D2
  | .str i, .str j => some (.val (.bl (!(!(Builtin.Str.occurrences j i 0 j.length 1).isEmpty))))
  | _, _ => none
end DL
set_option Elab.async false
set_option linter.all false
set_option maxRecDepth 100000
set_option maxHeartbeats 2000000
namespace DD
open PySem PySem.Spec PyProof.Rows L2
abbrev Cl1 := Value × (Addr → Value → Option Addr → TS)
section
variable {X : Cx} {n : Str} {i : Nat} {hds : List ExceptHandler} {l : List Cl1} {pins : List (Addr × Obj)} {σ : L2.St} {H : Hp} {D : Ends}
/-- what stands when an error has been looked at -/
structure Caught (X : Cx) (pins : List (Addr × Obj)) (σ : L2.St) (H : Hp) (a : Addr) (cls : Value) (d : Option Addr) (B : Heap) (sI s : Shared) : Prop where
  inv : Inv X pins σ H sI
  nb : ∀ b o, sI.heap.get? b = some o → b ∉ frs X.stack → B.get? b = some o
  up : sI.heap.UpToSlots s.heap
  na : H a = none
  os : s.os = sI.os
  ag : AllBare s.gens
  fl : HandSPX.FlyingZ B (X.env :: X.outer) a (Zc cls d) s.heap
theorem Caught.at {a : Addr} {cls : Value} {d : Option Addr} {B : Heap} {sI s : Shared} (C : Caught X pins σ H a cls d B sI s) (hf : X.env.frame = some X.env.locals) :
    ∃ oe, s.heap.get? a = some oe ∧ Zc cls d oe ∧ (∃ vs, oe.data = .fields vs) ∧ Inv (X.suite a ((a, oe) :: (X.pn ++ pins))) [] σ H s := by
  have J := C.inv.landed C.nb C.fl.1 C.up C.os C.ag
  obtain ⟨oe, vs, e1, e2, e3⟩ := C.fl.there
  have far : a ∉ frs (X.env :: X.outer) := fun q => by
    obtain ⟨_, o2, g, nf⟩ := C.fl.2.2.1.mem q
    rw [e1] at g
    cases g
    exact nf _ e3
  refine ⟨oe, e1, e2, ⟨vs, e3⟩, J.suite e1 e3 C.na (fun z => ?_) fun q => ?_⟩
  · exact far (List.mem_filterMap.mpr ⟨X.env, .head _, by rw [hf, z]⟩)
  · obtain ⟨e, m, q2⟩ := List.mem_filterMap.mp q
    exact far (List.mem_filterMap.mpr ⟨e, .tail _ m, q2⟩)
end
/-- a block inside a block -/
theorem blkOk2 {N : List Str} {sc scope1 scope2 : Scope} {own : List (Str × Nat)} {cl : List (Str × Addr)} {C : Addr} {env : Env} (he : env.scope = sc) (h : blkC N (relS scope1 sc) scope2 own = true) : BlkOk N (compEnvC scope1 cl C env).scope scope2 own := by
  subst he
  exact blkOk_by h
end DD
set_option Elab.async false
set_option linter.all false
set_option maxRecDepth 100000
set_option maxHeartbeats 2000000
namespace DL
open PySem PySem.Spec PyProof.Rows L2 DD
def rReprS : List V → Hp → VK → Prop := fun xs H Q => ∃ x : Str, xs = [.str x] ∧ (reprText x).length ≤ sizeLine ∧ Q (.str (reprText x)) H
def rReprN : List V → Hp → VK → Prop := fun xs H Q => xs = [.non] ∧ Q (.str "None") H
theorem call_reprS {X : Cx} : CallR X (.builtin "repr") rReprS := by
  intro pins s σ H xs us Q I r h
  obtain ⟨x, rfl, hz, q⟩ := h
  obtain ⟨u, rfl, ru⟩ := r.one
  obtain ⟨t, rfl⟩ := ru
  exact PySem.P.repr_of_str ⟨.str (reprText x), H, I.tok _, ⟨_, rfl⟩, q⟩ hz
theorem call_reprN {X : Cx} : CallR X (.builtin "repr") rReprN := by
  intro pins s σ H xs us Q I r h
  obtain ⟨rfl, q⟩ := h
  obtain ⟨u, rfl, ru⟩ := r.one
  cases (show u = Value.none from ru)
  exact PySem.P.repr_of_none ⟨.str "None", H, I.tok _, ⟨_, rfl⟩, q⟩
def fRepr3 : List D → Option X
  | [.str x] => if (reprText x).length ≤ sizeLine then some (.val (.str (reprText x))) else none
  | [.non] => some (.val (.str "None"))
  | ds => fRepr ds
def rRepr3 (K : Fg) : List V → Hp → VK → Prop := fun xs H Q => rReprS xs H Q ∨ rReprN xs H Q ∨ rRepr2 K xs H Q
theorem C_repr3 {K : Fg} : CallS K (rRepr3 K) fRepr3 := by
  intro F G H σ ρ vs ds z Q R hx ez q
  unfold fRepr3 at ez
  split at ez
  · split at ez
    · rename_i hc
      cases ez
      obtain ⟨v, rfl, h⟩ := hx.one
      obtain rfl := h.str
      exact .inl ⟨_, rfl, hc, q _ G H R (Same.refl G) (.str _)⟩
    · cases ez
  · cases ez
    obtain ⟨v, rfl, h⟩ := hx.one
    obtain rfl := h.non
    exact .inr (.inl ⟨rfl, q _ G H R (Same.refl G) (.str _)⟩)
  · exact .inr (.inr (C_repr F G H σ ρ vs _ z Q R hx ez q))
theorem call_repr3 {X : Cx} {K : Fg} (hg : X.A.guards = some []) (hu : X.A.units + 64 < cLine) (h : X.K = K := by rfl) : CallR X (.builtin "repr") (rRepr3 K) := CallRor call_reprS (CallRor call_reprN (call_repr2 hg hu h))
end DL
set_option Elab.async false
set_option linter.all false
set_option maxRecDepth 100000
set_option maxHeartbeats 2000000
namespace DD
open PySem PySem.Spec PyProof.Rows L2
theorem vals_app {xs ys : List V} {its jts : List Value} (h : Vals xs its) (h2 : Vals ys jts) : Vals (xs ++ ys) (its ++ jts) := by
  induction h with
  | nil => exact h2
  | cons r t ih => exact .cons r ih
theorem vals_rep {xs : List V} {its : List Value} (h : Vals xs its) : ∀ k : Nat, Vals (List.replicate k xs).flatten (List.replicate k its).flatten
  | 0 => .nil
  | k + 1 => by
    rw [List.replicate_succ, List.replicate_succ, List.flatten_cons, List.flatten_cons]
    exact vals_app h (vals_rep h k)
theorem len_rep' {α : Type} (xs : List α) (k : Nat) : (List.replicate k xs).flatten.length = xs.length * k := by
  induction k with
  | zero => rfl
  | succ k ih =>
    rw [List.replicate_succ, List.flatten_cons, List.length_append, ih, Nat.mul_succ]
    omega
theorem op_mul_li {X : Cx} : OpR X (binaryOp .Mult) (fun x y H Q => ∃ a xs k, x = V.ref a ∧ y = V.int k ∧ SqL X.K H a xs ∧ 0 ≤ k ∧ k ≤ 1000000 ∧ xs.length * k.toNat ≤ sizeLine ∧ ∀ p, H p = none → Q (.ref p) (upd H p (.lst (List.replicate k.toNat xs).flatten))) := by
  intro pins s σ H x y v u Q I rx ry h
  obtain ⟨a, xs, k, rfl, rfl, hs, h0, h1, h2, q⟩ := h
  obtain rfl : v = Value.ref a := rx
  obtain ⟨tk, rfl⟩ := ry
  obtain ⟨its, rv, ⟨⟨cls, dd, data, sl⟩, n, ho, hc, hdn, hd⟩, hlen⟩ := I.list hs
  have hc1 : cls = Value.type "list" := hc
  have hd1 : data = Data.seq its.toArray n := hd
  subst hc1 hd1
  have hsl := sizeLine_eq
  have hle : its.length * k.toNat ≤ sizeLine := by rw [← rv.length]; exact h2
  have hm : its.toArray.size * k.toNat ≤ sizeLine := by simpa using hle
  refine wpAny_binaryOp_repeat_ref (T := "list") (U := "int") (by decide) ⟨_, ho, rfl⟩ (fun s' => typeIs_int s' k tk) noFill_list_mul F.fills_int_mul F.slot_int_rmul repeat_list F.slot_int_index.lookup
    (call_meets F.slot_int_rmul (typeIs_int s k tk) F.entry_int_rmul (F.args_int_rmul_2 _ _) (lm_int_rmul_list_any k tk a its.toArray n dd sl)
      ⟨ho, rfl, ⟨_, ho, rfl⟩, call_meets F.slot_list_mul ⟨_, ho, rfl⟩ F.entry_list_mul (F.args_list_mul_2 _ _)
        (lm_list_mul_any a its.toArray n dd sl k tk (by simp [Builtin.List.listFitsIndex]; omega) (by omega) (by simp only [Builtin.List.listTooLong, decide_eq_true_eq]; omega))
        ⟨ho, ?_⟩⟩)
  rw [listMul_foldl_if]
  refine ⟨.ref s.heap.objs.size, upd H s.heap.objs.size (.lst (List.replicate k.toNat xs).flatten), I.laid (t' := s.toks) (fun b o e => Heap.get?_push_of_some _ e) (Nat.le_refl _) ⟨by rw [len_rep']; exact h2, _, 0, vals_rep rv k.toNat, Heap.get?_push_size _ rfl⟩, rfl, q _ (I.hok.fresh (Nat.le_refl _))⟩
end DD
set_option Elab.async false
set_option linter.all false
set_option maxRecDepth 100000
set_option maxHeartbeats 2000000
namespace DD
open PySem PySem.Spec PyProof.Rows L2
/-- iterators that have come to their end -/
theorem spentT {prog : Program} {w : World} {A : Around} (hh : A.handled = none) (it t : Addr) (hne : t ≠ it) (items : Array Value) (i : Nat) (hi : items.size ≤ i) :
    Draws prog w A it [it, t] i (fun _ _ => False) (fun j h => h.IsTupleIter it t j ∧ h.IsTuple t items ∧ i ≤ j) where
  live := fun _ _ st => let ⟨o, ho, _⟩ := st.1; ⟨o, ho⟩
  frame := fun _ _ _ st hk => ⟨st.1.at fun o e => hk it (by simp) o e, st.2.1.at fun o e => hk t (by simp) o e, st.2.2⟩
  item := fun j s Q E hj st hQ => by have := st.2.2; omega
  done := fun s Q E st hE => wpAny_nextOf_tuple_end hh st.1 st.2.1 (Array.getElem?_eq_none hi) hE
theorem spentL {prog : Program} {w : World} {A : Around} (hh : A.handled = none) (it t : Addr) (hne : t ≠ it) (items : Array Value) (i : Nat) (hi : items.size ≤ i) :
    Draws prog w A it [it, t] i (fun _ _ => False) (fun j h => h.IsListIter it t j ∧ h.IsList t items ∧ i ≤ j) where
  live := fun _ _ st => let ⟨o, ho, _⟩ := st.1; ⟨o, ho⟩
  frame := fun _ _ _ st hk => ⟨st.1.at fun o e => hk it (by simp) o e, st.2.1.at fun o e => hk t (by simp) o e, st.2.2⟩
  item := fun j s Q E hj st hQ => by have := st.2.2; omega
  done := fun s Q E st hE => wpAny_nextOf_list_end hh st.1 st.2.1 (Array.getElem?_eq_none hi) hE
def IteT (K : PySem.W.Frag) (a : Addr) : It :=
  ⟨fun i H => ∃ (xs : List V) (x : V), SqT K H a xs ∧ xs[i]? = some x, fun i H v H' => ∃ T x, v = .ref T ∧ H T = none ∧ H' = upd H T (.tup [.int (i : Nat), x]) ∧ ∀ xs, SqT K H a xs → xs[i]? = some x, fun i H => ∃ xs : List V, SqT K H a xs ∧ xs.length ≤ i⟩
theorem turn_enumT {P : Program} {w : World} {K : PySem.W.Frag} {elts : List Expr} {kk : Nat} {tpos : Pos} (a e it : Addr) :
    Turn P w K (.Tuple elts kk tpos) (IteT K a) [e, it] e (fun i h => (∃ old, IsEnum h e it ((i : Nat) : Int) old) ∧ h.IsTupleIter it a i ∧ e ≠ it ∧ a ≠ it ∧ a ≠ e) where
  mem := by simp
  obj := fun i h st b hb => by
    obtain ⟨⟨old, he⟩, ⟨o, ho, hc, hd⟩, _⟩ := st
    have e' : b = e ∨ b = it := by simpa using hb
    rcases e' with z | z
    · rw [z]; exact ⟨_, he, fun v q => nomatch q⟩
    · rw [z]; exact ⟨o, ho, fun v q => by rw [hd] at q; cases q⟩
  keep := fun i h h' st k => let ⟨⟨old, he⟩, hi, hne⟩ := st; ⟨⟨old, k e (by simp) _ he⟩, hi.at fun o q => k it (by simp) o q, hne⟩
  item := by
    intro X hP hw hK hc i pins s σ H E I hf st hg
    subst hP hw hK
    obtain ⟨⟨old, he⟩, hit, hne, hai, hae⟩ := st
    obtain ⟨xs, x, hq, hx⟩ := hg
    obtain ⟨its, rv, p, hz⟩ := I.tuple hq
    obtain ⟨u, hu, ru⟩ := rv.get hx
    have hel : e < s.heap.objs.size := Heap.lt_size he
    have hil : it < s.heap.objs.size := by obtain ⟨_, q, _⟩ := hit; exact Heap.lt_size q
    have hin : i < its.toArray.size := by
      obtain ⟨h1, _⟩ := List.getElem?_eq_some_iff.mp hu
      simpa using h1
    refine wpAny_pyNext_enum_itemD (Draws.tuple (A := X.A.in1) (I.ok.hd hc) it a hai its.toArray) he ⟨hit, p⟩ hin hne (by simp; exact ⟨hne, fun z => hae z.symm⟩) fun u' h' tk hP ho hit' hT hsz hk => ?_
    have eu : u' = u := by
      have h1 : its.toArray[i]? = some u := by simpa using hu
      rw [h1] at hP
      exact (Option.some.inj hP).symm
    subst eu
    refine ⟨_, rfl, wpAny_letOwnedTupleGo_enum (s := { s with heap := h', toks := tk + 1 }) ho fun h'' he' sb => ?_⟩
    have hT2 : h''.get? s.heap.objs.size = some { cls := .type "tuple", data := .seq #[.int i tk, u'] } := (sb.2 _ (Nat.ne_of_gt hel)).trans hT
    have new : ObjOk X.prog X.w (upd H s.heap.objs.size (.tup [.int (i : Nat), x])) h'' s.heap.objs.size (.tup [.int (i : Nat), x]) :=
      ⟨by show 2 ≤ sizeLine; decide, [.int i tk, u'], .cons ⟨_, rfl⟩ (.cons ru .nil), ⟨_, hT2, rfl, _, rfl⟩⟩
    have I1 : Inv X pins σ (upd H s.heap.objs.size (.tup [.int (i : Nat), x])) { s with heap := h'', toks := tk + 1 } :=
      I.turnedNew (ch := [e, it]) (fun b ob hb q => (sb.2 b (fun z => hb (by simp [z]))).trans (hk b ob (fun z => hb (by simp [z])) (fun z => hb (by simp [z])) q)) hf (Nat.le_refl _) new
    refine ⟨.ref s.heap.objs.size, _, I1, rfl, ⟨_, x, rfl, I.hok.fresh (Nat.le_refl _), rfl, fun ys hy => by rw [I.tuple_inj hy hq]; exact hx⟩, ⟨⟨u', ?_⟩, hit'.1.at fun o q => (sb.2 it (Ne.symm hne)).trans q, hne, hai, hae⟩, fun b hb => ?_⟩
    · have e1 : ((i + 1 : Nat) : Int) = (i : Int) + 1 := by omega
      rw [e1]; exact he'
    · have hb' : b < s.heap.objs.size := by
        have e' : b = e ∨ b = it := by simpa using hb
        rcases e' with z | z
        · rw [z]; exact hel
        · rw [z]; exact hil
      rw [upd_ne (Nat.ne_of_lt hb')]
      exact (hf b hb).1
  done := by
    intro X hP hw hK hc i pins s σ H E I hf st hg
    subst hP hw hK
    obtain ⟨⟨old, he⟩, hit, hne, hai, hae⟩ := st
    obtain ⟨xs, hq, hx⟩ := hg
    obtain ⟨its, rv, p, hz⟩ := I.tuple hq
    obtain ⟨f0, f1, f2, f3, f4, f5⟩ := hf it (by simp)
    have hl := rv.length
    exact wpAny_pyNext_enum_endD (spentT (A := X.A.in1) (I.ok.hd hc) it a hai its.toArray i (by simp; omega)) he ⟨hit, p, Nat.le_refl _⟩ fun h' eb => ⟨rfl, I.turned (t' := s.toks) (fun b o hb q => eb b o hb q) f0 f1 f3 f4 f5⟩
  self := fun A i s Q E st h => let ⟨⟨_, he⟩, _⟩ := st; wpAny_pyIter_enum he h
theorem meets_enum_T (l : Addr) (items : Array Value) :
    Meets (Builtin.«enumerate.__new__» ⟨[.type "enumerate", .ref l], []⟩) (fun _ R s => s.heap.IsTuple l items ∧
      R (.ok (.ret (.ref (s.heap.push { cls := .type "tuple_iterator", data := .fields #[.ref l, .int 0 0] }).objs.size)))
        { s with heap := (s.heap.push { cls := .type "tuple_iterator", data := .fields #[.ref l, .int 0 0] }).push { cls := .type "enumerate", data := .fields #[.none, .bool false, .ref s.heap.objs.size, rawInt 0, .none, .none] } }) :=
  .of_wp fun prog w A R s h => by
    obtain ⟨hp, g, d, tk, os⟩ := s; obtain ⟨hl, h⟩ := h
    have hsub := sub_enumerate
    have hL : Heap.IsTuple (Shared.heap ⟨hp, g, d, tk, os⟩) l items := hl
    have q1 : ∀ {A' : Around} {E : Value → Shared → Prop} {Q : Value → Shared → Prop}, Q (.ref hp.objs.size) ⟨hp.push { cls := .type "tuple_iterator", data := .fields #[.ref l, .int 0 0] }, g, d, tk, os⟩ → wpAny (model prog w) A' (pyIter (.ref l)) Q E ⟨hp, g, d, tk, os⟩ :=
      fun q => wpAny_pyIter_tuple hL q
    wp_walk using q1
    refine wpAny_stack_any fun st => wpAny_pure ?_
    split
    · rename_i c _ _ _ _ _
      cases (c == Value.type "enumerate")
      · wp_walk using q1
        exact ⟨_, rfl, h⟩
      · wp_walk using q1
        exact ⟨_, rfl, h⟩
    · wp_walk using q1
      exact ⟨_, rfl, h⟩
theorem call_enum_T {prog : Program} {w : World} {A : Around} {E : Value → Shared → Prop} {s : Shared} {l : Addr} {items : Array Value} {Q : Value → Shared → Prop} (hL : s.heap.IsTuple l items)
    (h : ∀ h', IsEnum h' (s.heap.objs.size + 1) s.heap.objs.size 0 .none → h'.IsTupleIter s.heap.objs.size l 0 →
      (∀ b o, s.heap.get? b = some o → h'.get? b = some o) → Q (.ref (s.heap.objs.size + 1)) { s with heap := h' }) :
    wpAny (model prog w) A (call (.type "enumerate") [.ref l]) Q E s := by
  refine callType_new F.called_enumerate (by decide) (F.typeCall_enumerate_1 _) (F.newCall_enumerate_1 _) (fun obj => F.args_object_init_2 obj _) F.entry_enumerate_new
    (meets_enum_T l items) ⟨hL, ?_⟩
  have hz : (s.heap.push { cls := .type "tuple_iterator", data := .fields #[.ref l, .int 0 0] }).objs.size = s.heap.objs.size + 1 := Heap.size_push ..
  show _ ∧ _
  rw [hz]
  have he : IsEnum ((s.heap.push { cls := .type "tuple_iterator", data := .fields #[.ref l, .int 0 0] }).push { cls := .type "enumerate", data := .fields #[.none, .bool false, .ref s.heap.objs.size, rawInt 0, .none, .none] }) (s.heap.objs.size + 1) s.heap.objs.size 0 .none := by
    have := Heap.get?_push_size (s.heap.push { cls := .type "tuple_iterator", data := .fields #[.ref l, .int 0 0] }) (o := { cls := .type "enumerate", data := .fields #[.none, .bool false, .ref s.heap.objs.size, rawInt 0, .none, .none] }) rfl
    rw [hz] at this; exact this
  exact ⟨⟨_, he, rfl⟩, h _ he ⟨_, Heap.get?_push_of_some _ (Heap.get?_push_size _ rfl), rfl, rfl⟩ fun b o y => Heap.get?_push_of_some _ (Heap.get?_push_of_some _ y)⟩
/-- enumerate of a list or of a tuple -/
def iEnumA (K : PySem.W.Frag) (ta : TA) : TI := fun σ H R => ta σ H fun vs H1 => ∃ a xs, vs = [.ref a] ∧ ((SqL K H1 a xs ∧ R (Ite K a) H1) ∨ (SqT K H1 a xs ∧ R (IteT K a) H1))
theorem pi_enumA {X : Cx} {e : Expr} {ta : TA} {p pos tpos : Pos} {elts : List Expr} {kk : Nat} (hg : Gl X "enumerate") (hm : X.mg "enumerate" = none) (ha : PA X [e] ta) (hs : starEach [e] X.env = [(false, eval e X.env)] := by rfl) :
    PI X (.Tuple elts kk tpos) (.Call (.Name "enumerate" p) [e] [] pos) (iEnumA X.K ta) := by
  refine ⟨fun pins s σ H R I h => ?_⟩
  refine Call_ (ld_blt I hg hm boot_enumerate (PyProof.Rows.callWith_type1 (thn (ha.run pos pins s σ H _ I h) fun us s1 ⟨vs, H1, I1, r1, q1⟩ => ?_) hs rfl))
  obtain ⟨a, xs, ex, q1⟩ := q1
  subst ex
  cases r1 with
  | cons r rr =>
    cases rr
    cases r
    have fr : ∀ b ∈ [s1.heap.objs.size + 1, s1.heap.objs.size], FpOk X pins H1 b := fun b hb => by
      have e' : b = s1.heap.objs.size + 1 ∨ b = s1.heap.objs.size := by simpa using hb
      have hle : s1.heap.objs.size ≤ b := by
        rcases e' with z | z
        · rw [z]; exact Nat.le_add_right _ _
        · rw [z]; exact Nat.le_refl _
      exact I1.fpOk hle (I1.hok.fresh hle)
    rcases q1 with ⟨hq, q⟩ | ⟨hq, q⟩
    · obtain ⟨its, rv, p', hz⟩ := I1.list hq
      refine call_enumerate_list p'.isList fun h' he hit hsz hk => wpAny_pyIter_enum he ?_
      have I2 : Inv X pins σ H1 { s1 with heap := h' } := I1.kept (t' := s1.toks) hk
      exact ⟨s1.heap.objs.size + 1, [s1.heap.objs.size + 1, s1.heap.objs.size], _, _, H1, rfl, I2, turn_enum a (s1.heap.objs.size + 1) s1.heap.objs.size, ⟨⟨.none, he⟩, hit, Nat.succ_ne_self _⟩, fr, q⟩
    · obtain ⟨its, rv, p', hz⟩ := I1.tuple hq
      have hal : a < s1.heap.objs.size := by
        obtain ⟨o, ho, _⟩ := id p'
        exact Heap.lt_size ho
      refine call_enum_T (show s1.heap.IsTuple a its.toArray from p') fun h' he hit hk => wpAny_pyIter_enum he ?_
      have I2 : Inv X pins σ H1 { s1 with heap := h' } := I1.kept (t' := s1.toks) hk
      exact ⟨s1.heap.objs.size + 1, [s1.heap.objs.size + 1, s1.heap.objs.size], _, _, H1, rfl, I2, turn_enumT a (s1.heap.objs.size + 1) s1.heap.objs.size, ⟨⟨.none, he⟩, hit, Nat.succ_ne_self _, Nat.ne_of_lt hal, Nat.ne_of_lt (Nat.lt_succ_of_lt hal)⟩, fr, q⟩
def ItzM (K : PySem.W.Frag) (a b : Addr) : It :=
  ⟨fun i H => ∃ (xs ys : List V) (x y : V), SqL K H a xs ∧ SqT K H b ys ∧ xs[i]? = some x ∧ ys[i]? = some y,
    fun i H v H' => ∃ T x y, v = .ref T ∧ H T = none ∧ H' = upd H T (.tup [x, y]) ∧ (∀ xs, SqL K H a xs → xs[i]? = some x) ∧ ∀ ys, SqT K H b ys → ys[i]? = some y,
    fun i H => ∃ xs ys : List V, SqL K H a xs ∧ SqT K H b ys ∧ (xs.length ≤ i ∨ ys.length ≤ i)⟩
theorem apart2 {z TI TO i1 i2 a b : Addr} (D : ZipApart z TI TO i1 i2 a b) (l1 : a ≠ i2) (l2 : b ≠ i1) : ZipSep2 z TI TO i1 i2 [i1, a] [i2, b] where
  TIz := D.TIz
  TOz := D.TOz
  TITO := D.TITO
  TIi1 := D.TIi1
  mem1 := by simp
  zf1 := by simp; exact ⟨D.i1z.symm, D.l1z.symm⟩
  Tf1 := by simp; exact ⟨D.TOi1, D.l1TO.symm⟩
  TIi2 := D.TIi2
  mem2 := by simp
  zf2 := by simp; exact ⟨D.i2z.symm, D.l2z.symm⟩
  Tf2 := by simp; exact ⟨D.TOi2, D.l2TO.symm⟩
  sep1_2 := by simp; exact ⟨D.i12, l2.symm⟩
  sep2_1 := by simp; exact ⟨D.i12.symm, l1.symm⟩
theorem turn_zipM {P : Program} {w : World} {K : PySem.W.Frag} {elts : List Expr} {kk : Nat} {tpos : Pos} {a b z TI TO i1 i2 : Addr} (D : ZipApart z TI TO i1 i2 a b) (l1 : a ≠ i2) (l2 : b ≠ i1) (l3 : b ≠ i2) (l4 : a ≠ i1) :
    Turn P w K (.Tuple elts kk tpos) (ItzM K a b) [z, TI, TO, i1, i2] z (fun i h => IsZip h z TI TO .none ∧ IsTupOf2 h TI (.ref i1) (.ref i2) ∧ (∃ x y, IsTupOf2 h TO x y) ∧ h.IsListIter i1 a i ∧ h.IsTupleIter i2 b i) where
  mem := by simp
  obj := fun i h st c hc => by
    obtain ⟨hz, hTI, ⟨x, y, hTO⟩, ⟨o1, e1, _, d1⟩, ⟨o2, e2, _, d2⟩⟩ := st
    have e' : c = z ∨ c = TI ∨ c = TO ∨ c = i1 ∨ c = i2 := by simpa using hc
    rcases e' with q | q | q | q | q
    · rw [q]; exact ⟨_, hz, fun v q => nomatch q⟩
    · rw [q]; exact ⟨_, hTI, fun v q => nomatch q⟩
    · rw [q]; exact ⟨_, hTO, fun v q => nomatch q⟩
    · rw [q]; exact ⟨o1, e1, fun v q => by rw [d1] at q; cases q⟩
    · rw [q]; exact ⟨o2, e2, fun v q => by rw [d2] at q; cases q⟩
  keep := fun i h h' st k => by
    obtain ⟨hz, hTI, ⟨x, y, hTO⟩, h1, h2⟩ := st
    exact ⟨k z (by simp) _ hz, k TI (by simp) _ hTI, ⟨x, y, k TO (by simp) _ hTO⟩, h1.at fun o q => k i1 (by simp) o q, h2.at fun o q => k i2 (by simp) o q⟩
  item := by
    intro X hP hw hK hc i pins s σ H E I hf st hg
    subst hP hw hK
    obtain ⟨hz, hTI, ⟨x0, y0, hTO⟩, h1, h2⟩ := st
    obtain ⟨xs, ys, x, y, hqx, hqy, hx, hy⟩ := hg
    obtain ⟨its, rv, p, _⟩ := I.list hqx
    obtain ⟨its2, rv2, p2, _⟩ := I.tuple hqy
    obtain ⟨u, hu, ru⟩ := rv.get hx
    obtain ⟨u2, hu2, ru2⟩ := rv2.get hy
    have hzl : z < s.heap.objs.size := Heap.lt_size hz
    have n1 : i < its.toArray.size := by
      obtain ⟨q, _⟩ := List.getElem?_eq_some_iff.mp hu
      simpa using q
    have n2 : i < its2.toArray.size := by
      obtain ⟨q, _⟩ := List.getElem?_eq_some_iff.mp hu2
      simpa using q
    refine wpAny_pyNext_zipD2_item (apart2 D l1 l2) (Draws.list (A := X.A.in1) (I.ok.hd hc) i1 a l4 its.toArray) (Draws.tuple (A := X.A.in1) (I.ok.hd hc) i2 b l3 its2.toArray) hz hTI hTO ⟨h1, p.isList⟩ ⟨h2, p2⟩ n1 n2 fun v1 v2 h' tk P1 P2 z' TO' h1' h2' hT hsz hk => ?_
    have e1 : v1 = u := by
      have q : its.toArray[i]? = some u := by simpa using hu
      rw [q] at P1
      exact (Option.some.inj P1).symm
    have e2 : v2 = u2 := by
      have q : its2.toArray[i]? = some u2 := by simpa using hu2
      rw [q] at P2
      exact (Option.some.inj P2).symm
    subst e1 e2
    refine ⟨_, rfl, wpAny_letOwnedTupleGo_zip (s := { s with heap := h', toks := tk }) z' fun h'' z'' sb => ?_⟩
    have hT2 : h''.get? s.heap.objs.size = some { cls := .type "tuple", data := .seq #[v1, v2] } := (sb.2 _ (Nat.ne_of_gt hzl)).trans hT
    have new : ObjOk X.prog X.w (upd H s.heap.objs.size (.tup [x, y])) h'' s.heap.objs.size (.tup [x, y]) :=
      ⟨by show 2 ≤ sizeLine; decide, [v1, v2], .cons ru (.cons ru2 .nil), ⟨_, hT2, rfl, _, rfl⟩⟩
    have I1 : Inv X pins σ (upd H s.heap.objs.size (.tup [x, y])) { s with heap := h'', toks := tk } :=
      I.turnedNew (ch := [z, TI, TO, i1, i2]) (fun c o hb q => (sb.2 c (fun q' => hb (by simp [q']))).trans (hk c o (fun q' => hb (by simp [q'])) (fun q' => hb (by simp [q'])) (fun q' => hb (by simp [q'])) (fun q' => hb (by simp [q'])) q)) hf (Nat.le_refl _) new
    refine ⟨.ref s.heap.objs.size, _, I1, rfl, ⟨_, x, y, rfl, I.hok.fresh (Nat.le_refl _), rfl, fun l hl => by rw [I.list_inj hl hqx]; exact hx, fun l hl => by rw [I.tuple_inj hl hqy]; exact hy⟩, ⟨z'', ?_, ⟨v1, v2, ?_⟩, ?_, ?_⟩, fun c hcm => ?_⟩
    · exact (sb.2 _ D.TIz).trans (hk _ _ D.TIz D.TITO D.TIi1 D.TIi2 hTI)
    · exact (sb.2 _ D.TOz).trans TO'
    · exact h1'.1.at fun o q => (sb.2 _ D.i1z).trans q
    · exact h2'.1.at fun o q => (sb.2 _ D.i2z).trans q
    · have hlt : c < s.heap.objs.size := by
        have e' : c = z ∨ c = TI ∨ c = TO ∨ c = i1 ∨ c = i2 := by simpa using hcm
        rcases e' with q | q | q | q | q
        · rw [q]; exact hzl
        · rw [q]; exact Heap.lt_size hTI
        · rw [q]; exact Heap.lt_size hTO
        · rw [q]; obtain ⟨_, e1, _⟩ := h1; exact Heap.lt_size e1
        · rw [q]; obtain ⟨_, e2, _⟩ := h2; exact Heap.lt_size e2
      rw [upd_ne (Nat.ne_of_lt hlt)]
      exact (hf c hcm).1
  done := by
    intro X hP hw hK hc i pins s σ H E I hf st hg
    subst hP hw hK
    obtain ⟨hz, hTI, ⟨x0, y0, hTO⟩, h1, h2⟩ := st
    obtain ⟨xs, ys, hqx, hqy, hend⟩ := hg
    obtain ⟨its, rv, p, _⟩ := I.list hqx
    obtain ⟨its2, rv2, p2, _⟩ := I.tuple hqy
    have e1 := rv.length
    have e2 := rv2.length
    have fin : ∀ h' tk, (∀ c o, c ≠ z → c ≠ TO → c ≠ i1 → c ≠ i2 → s.heap.get? c = some o → h'.get? c = some o) → (none : Option Value) = none ∧ Inv X pins σ H { s with heap := h', toks := tk } := fun h' tk hk =>
      ⟨rfl, I.turnedL (ch := [z, TI, TO, i1, i2]) (fun c o hb q => hk c o (fun q' => hb (by simp [q'])) (fun q' => hb (by simp [q'])) (fun q' => hb (by simp [q'])) (fun q' => hb (by simp [q'])) q) hf⟩
    by_cases c1 : xs.length ≤ i
    · by_cases c2 : ys.length ≤ i
      · exact wpAny_pyNext_zipD2_end (apart2 D l1 l2) (spentL (A := X.A.in1) (I.ok.hd hc) i1 a l4 its.toArray i (by simp; omega)) (spentT (A := X.A.in1) (I.ok.hd hc) i2 b l3 its2.toArray i (by simp; omega)) hz hTI hTO ⟨h1, p.isList, Nat.le_refl _⟩ ⟨h2, p2, Nat.le_refl _⟩ (Nat.le_refl _) (Nat.le_refl _) (.inl rfl) fin
      · exact wpAny_pyNext_zipD2_end (apart2 D l1 l2) (spentL (A := X.A.in1) (I.ok.hd hc) i1 a l4 its.toArray i (by simp; omega)) (Draws.tuple (A := X.A.in1) (I.ok.hd hc) i2 b l3 its2.toArray) hz hTI hTO ⟨h1, p.isList, Nat.le_refl _⟩ ⟨h2, p2⟩ (Nat.le_refl _) (by simp; omega) (.inl rfl) fin
    · have c2 : ys.length ≤ i := hend.resolve_left c1
      exact wpAny_pyNext_zipD2_end (apart2 D l1 l2) (Draws.list (A := X.A.in1) (I.ok.hd hc) i1 a l4 its.toArray) (spentT (A := X.A.in1) (I.ok.hd hc) i2 b l3 its2.toArray i (by simp; omega)) hz hTI hTO ⟨h1, p.isList⟩ ⟨h2, p2, Nat.le_refl _⟩ (by simp; omega) (Nat.le_refl _) (.inr rfl) fin
  self := fun A i s Q E st h => wpAny_pyIter_zip st.1 h
def iZipM (K : PySem.W.Frag) (ta : TA) : TI := fun σ H R => ta σ H fun vs H1 => ∃ a b xs ys, vs = [.ref a, .ref b] ∧ SqL K H1 a xs ∧ SqT K H1 b ys ∧ R (ItzM K a b) H1
theorem pi_zipM {X : Cx} {e e2 : Expr} {ta : TA} {p pos tpos : Pos} {elts : List Expr} {kk : Nat} (hg : Gl X "zip") (hm : X.mg "zip" = none) (ha : PA X [e, e2] ta)
    (hs : starEach [e, e2] X.env = (false, eval e X.env) :: starEach [e2] X.env := by rfl) (hpl : (backTo pos (starEach [e2] X.env)).any (·.1) = false := by rfl) :
    PI X (.Tuple elts kk tpos) (.Call (.Name "zip" p) [e, e2] [] pos) (iZipM X.K ta) := by
  refine ⟨fun pins s σ H R I h => ?_⟩
  refine Call_ (ld_blt I hg hm PyProof.Rows.boot_zip (PyProof.Rows.callWith_type1 (thn (ha.run pos pins s σ H _ I h) fun us s1 ⟨vs, H1, I1, r1, q1⟩ => ?_) hs hpl))
  obtain ⟨a, b, xs, ys, ex, hqx, hqy, q⟩ := q1
  subst ex
  cases r1 with
  | cons r rr =>
    cases rr with
    | cons r' rr =>
      cases rr
      cases r
      cases r'
      have fresh5 : ∀ c, c ∈ [s1.heap.objs.size + 4, s1.heap.objs.size + 2, s1.heap.objs.size + 3, s1.heap.objs.size, s1.heap.objs.size + 1] → FpOk X pins H1 c := fun c hcm => by
        have hle : s1.heap.objs.size ≤ c := by
          simp at hcm
          omega
        exact I1.fpOk hle (I1.hok.fresh hle)
      obtain ⟨its, rv, p1, _⟩ := I1.list hqx
      obtain ⟨its2, rv2, p2, _⟩ := I1.tuple hqy
      obtain ⟨o2, ho2, _⟩ := id p2
      have la := p1.lt
      have lb := Heap.lt_size ho2
      refine zip_begins2 (begins_list a its.toArray) (begins_tuple b its2.toArray) p1.isList p2 fun h' hz hTI hTO g1 g2 hsz hk => wpAny_pyIter_zip hz ?_
      have I2 : Inv X pins σ H1 { s1 with heap := h' } := I1.kept (t' := s1.toks) hk
      exact ⟨s1.heap.objs.size + 4, [s1.heap.objs.size + 4, s1.heap.objs.size + 2, s1.heap.objs.size + 3, s1.heap.objs.size, s1.heap.objs.size + 1], _, _, H1, rfl, I2, turn_zipM (PySem.W.ktu_apart s1.heap.objs.size a b la lb) (Nat.ne_of_lt (Nat.lt_succ_of_lt la)) (Nat.ne_of_lt lb) (Nat.ne_of_lt (Nat.lt_succ_of_lt lb)) (Nat.ne_of_lt la), ⟨hz, hTI, ⟨_, _, hTO⟩, ⟨_, g1, rfl, rfl⟩, ⟨_, g2, rfl, rfl⟩⟩, fresh5, q⟩
end DD
set_option Elab.async false
set_option linter.all false
set_option maxRecDepth 100000
set_option maxHeartbeats 2000000
namespace DL
open PySem PySem.Spec PyProof.Rows L2 DD
section
variable {K : Fg} {E : XK} {t : TA} {T : En → Res (List X)}
theorem its_enumT {G1 : Hp} {a : Addr} {vs : List V} {ds : List D} (h : ∀ G H, Same G1 G → Same G H → SqT K H a vs) (r : RepA K G1 vs ds) : Its K (fun _ => True) G1 (IteT K a) (enumD 0 ds) where
  go := fun G H e k p i hi => by
    have hi' : i < vs.length := by rw [enumD_len] at hi; rw [r.len]; exact hi
    exact ⟨vs, _, h G H e k, List.getElem?_eq_getElem hi'⟩
  stop := fun G H e k p i hi => ⟨vs, h G H e k, by rw [enumD_len] at hi; rw [r.len]; exact hi⟩
  yld := fun F G H σ ρ R e p i x H' hi hy => by
    obtain ⟨T, y, rfl, hT, rfl, hq⟩ := hy
    have hv := hq vs (h G H e R.gh)
    obtain ⟨d, h1, h2⟩ := r.get' hv
    obtain ⟨R2, s2, r2⟩ := newT R hT (.cons (.int (i : Nat)) (.one (h2.mono e)))
    refine ⟨_, R2, s2, fun _ _ => .inr trivial, smNew hT, _, ?_, r2⟩
    rw [enumD_get, h1]
    simp
def dEnum2 (A : En → Res X) : En → Res (List D) := fun ρ => (A ρ).bind fun a ρ1 => match toVal ρ1 a with
  | some (.lst ds, ρ2) => .ok (enumD 0 ds) ρ2
  | some (.tup ds, ρ2) => .ok (enumD 0 ds) ρ2
  | _ => .stuck
theorem I_enum2 {ta : TE} {A : En → Res X} (ha : LE K E ta A) : LI K E (iEnumA K (tCons ta tNil)) (dEnum2 A) := by
  intro F G H σ ρ Q R w
  refine ha F G H σ ρ _ R (Wants.bind w fun v a G1 H1 ρ1 R1 s1 hx w1 => ?_)
  cases e : toVal ρ1 a with
  | none => rw [e] at w1; exact w1.elim
  | some p =>
    obtain ⟨d, ρ2⟩ := p
    rw [e] at w1
    obtain ⟨G2, R2, s2, hr⟩ := R1.toVal hx e
    cases hr with
    | lst g r => exact ⟨_, _, rfl, .inl ⟨.inl (.inl (R2.gh _ _ g)), (w1.mono s2) _ G2 H1 R2 (Same.refl G2) (its_enum (fun G' H' e k => .inl (.inl (k _ _ (e _ _ g)))) r)⟩⟩
    | tup g r => exact ⟨_, _, rfl, .inr ⟨smTup R2.gh g, (w1.mono s2) _ G2 H1 R2 (Same.refl G2) (its_enumT (fun G' H' e k => smTup (e.trans k) g) r)⟩⟩
    | _ => exact w1.elim
theorem its_zipM {G1 : Hp} {a b : Addr} {vs ws : List V} {ds es : List D} (h : ∀ G H, Same G1 G → Same G H → SqL K H a vs) (h' : ∀ G H, Same G1 G → Same G H → SqT K H b ws) (r : RepA K G1 vs ds) (r' : RepA K G1 ws es) : Its K (fun _ => True) G1 (ItzM K a b) (zipD ds es) where
  go := fun G H e k p i hi => by
    rw [zipD_len] at hi
    have hi1 : i < vs.length := by rw [r.len]; omega
    have hi2 : i < ws.length := by rw [r'.len]; omega
    exact ⟨vs, ws, _, _, h G H e k, h' G H e k, List.getElem?_eq_getElem hi1, List.getElem?_eq_getElem hi2⟩
  stop := fun G H e k p i hi => ⟨vs, ws, h G H e k, h' G H e k, by rw [zipD_len] at hi; rw [r.len, r'.len]; omega⟩
  yld := fun F G H σ ρ R e p i x H' hi hy => by
    obtain ⟨T, y, z, rfl, hT, rfl, hq, hq'⟩ := hy
    obtain ⟨d, h1, h2⟩ := r.get' (hq vs (h G H e R.gh))
    obtain ⟨d', h1', h2'⟩ := r'.get' (hq' ws (h' G H e R.gh))
    obtain ⟨R2, s2, r2⟩ := newT R hT (.cons (h2.mono e) (.one (h2'.mono e)))
    refine ⟨_, R2, s2, fun _ _ => .inr trivial, smNew hT, _, ?_, r2⟩
    rw [zipD_get, h1, h1']
    rfl
def dZipM (T : En → Res (List X)) : En → Res (List D) := fun ρ => (T ρ).bind fun xs ρ1 => match toVals ρ1 xs with
  | some ([.lst ds, .tup es], ρ2) => .ok (zipD ds es) ρ2
  | _ => .stuck
theorem I_zipM (ht : LA K E t T) : LI K E (iZipM K t) (dZipM T) := by
  intro F G H σ ρ Q R w
  refine ht F G H σ ρ _ R (Wants.bind w fun vs xs G1 H1 ρ1 R1 s1 hx w1 => ?_)
  cases e : toVals ρ1 xs with
  | none => rw [e] at w1; exact w1.elim
  | some p =>
    obtain ⟨dd, ρ2⟩ := p
    rw [e] at w1
    obtain ⟨G2, R2, s2, hr⟩ := R1.toVals hx e
    match dd, hr, w1 with
    | [.lst ds, .tup es], .cons (.lst g r) (.cons (.tup g' r') .nil), w1 =>
      exact ⟨_, _, _, _, rfl, .inl (.inl (R2.gh _ _ g)), smTup R2.gh g', (w1.mono s2) _ G2 H1 R2 (Same.refl G2) (its_zipM (fun G' H' e k => .inl (.inl (k _ _ (e _ _ g)))) (fun G' H' e k => smTup (e.trans k) g') r r')⟩
end
theorem pi_enum2K {X : Cx} {K : Fg} {e : Expr} {ta : TA} {p pos tpos : Pos} {elts : List Expr} {kk : Nat} (hg : Gl X "enumerate") (hm : X.mg "enumerate" = none) (ha : PA X [e] ta) (h : X.K = K := by rfl) (hs : starEach [e] X.env = [(false, eval e X.env)] := by rfl) :
    PI X (.Tuple elts kk tpos) (.Call (.Name "enumerate" p) [e] [] pos) (iEnumA K ta) := h ▸ pi_enumA hg hm ha hs
theorem pi_zipMK {X : Cx} {K : Fg} {e e2 : Expr} {ta : TA} {p pos tpos : Pos} {elts : List Expr} {kk : Nat} (hg : Gl X "zip") (hm : X.mg "zip" = none) (ha : PA X [e, e2] ta) (h : X.K = K := by rfl)
    (hs : starEach [e, e2] X.env = (false, eval e X.env) :: starEach [e2] X.env := by rfl) (hpl : (backTo pos (starEach [e2] X.env)).any (·.1) = false := by rfl) :
    PI X (.Tuple elts kk tpos) (.Call (.Name "zip" p) [e, e2] [] pos) (iZipM K ta) := h ▸ pi_zipM hg hm ha hs hpl
def rRep (K : Fg) : R2 := fun x y H Q => ∃ a xs k, x = V.ref a ∧ y = V.int k ∧ SqL K H a xs ∧ 0 ≤ k ∧ k ≤ 1000000 ∧ xs.length * k.toNat ≤ sizeLine ∧ ∀ p, H p = none → Q (.ref p) (upd H p (.lst (List.replicate k.toNat xs).flatten))
def opRep : D2
  | .lst ds, .int k => if 0 ≤ k ∧ k ≤ 1000000 ∧ ds.length * k.toNat ≤ sizeLine then some (.new (.lst (List.replicate k.toNat ds).flatten)) else none
  | _, _ => none
theorem rep_flat {K : Fg} {G : Hp} {vs : List V} {ds : List D} (r : RepA K G vs ds) : ∀ n : Nat, RepA K G (List.replicate n vs).flatten (List.replicate n ds).flatten
  | 0 => .nil
  | n + 1 => by
    rw [List.replicate_succ, List.replicate_succ, List.flatten_cons, List.flatten_cons]
    exact r.app (rep_flat r n)
theorem S_rep {K : Fg} : OpS K (rRep K) opRep := by
  intro F G H σ ρ x y d e z Q R hx hy ez q
  cases d <;> cases e <;> first | cases ez | skip
  rename_i ds k
  simp only [opRep] at ez
  split at ez
  · rename_i hc
    cases ez
    obtain ⟨a, xs, rfl, h1, r1⟩ := hx.lst R.gh
    refine ⟨a, xs, k, rfl, hy.int, .inl (.inl h1), hc.1, hc.2.1, by rw [r1.len]; exact hc.2.2, fun p np => ?_⟩
    obtain ⟨R', x'⟩ := newL R np (rep_flat r1 k.toNat)
    exact q _ _ _ R' (Same.refl G) x'
  · cases ez
theorem op_rep {X : Cx} {K : Fg} (h : X.K = K := by rfl) : OpR X (binaryOp .Mult) (rRep K) := h ▸ op_mul_li
end DL
set_option Elab.async false
set_option linter.all false
set_option maxRecDepth 100000
set_option maxHeartbeats 4000000
namespace DD
open PySem PySem.Spec PyProof.Rows L2 ClX
def top (i : Nat) : Stmt := PySem.Challenge.pw_dimdays_k23_standings_tick_by_tick.main.body.getD i (.Pass ⟨0, 0, 0, 0⟩)
abbrev s__law_box : Stmt := top 72
theorem sc__law_box : FnScope ["_law_script", "_law_k", "_law_cell", "_law_seed"] ["_law_script", "_law_k"] (defScope s__law_box) := ⟨rfl, rfl, rfl, by decide +kernel, rfl, by decide +kernel, by decide +kernel⟩
abbrev s_is_integer : Stmt := top 8
theorem sc_is_integer : FnScope ["value"] ["value"] (defScope s_is_integer) := ⟨rfl, rfl, rfl, by decide +kernel, rfl, by decide +kernel, by decide +kernel⟩
abbrev s_is_number : Stmt := top 9
theorem sc_is_number : FnScope ["value"] ["value"] (defScope s_is_number) := ⟨rfl, rfl, rfl, by decide +kernel, rfl, by decide +kernel, by decide +kernel⟩
abbrev s__is_known : Stmt := top 56
theorem sc__is_known : FnScope ["value", "length", "tick", "is_taken"] ["value", "length"] (defScope s__is_known) := ⟨rfl, rfl, rfl, by decide +kernel, rfl, by decide +kernel, by decide +kernel⟩
abbrev s_is_sequence : Stmt := top 11
theorem sc_is_sequence : FnScope ["value"] ["value"] (defScope s_is_sequence) := ⟨rfl, rfl, rfl, by decide +kernel, rfl, by decide +kernel, by decide +kernel⟩
abbrev s__are_known : Stmt := top 57
theorem sc__are_known : FnScope ["value", "length", "pair"] ["value", "length"] (defScope s__are_known) := ⟨rfl, rfl, rfl, by decide +kernel, rfl, by decide +kernel, by decide +kernel⟩
abbrev s_is_positive : Stmt := top 10
theorem sc_is_positive : FnScope ["value"] ["value"] (defScope s_is_positive) := ⟨rfl, rfl, rfl, by decide +kernel, rfl, by decide +kernel, by decide +kernel⟩
abbrev s_wrong_argument_frames : Stmt := top 58
theorem sc_wrong_argument_frames : FnScope ["length", "shortest", "most", "private", "known"] ["length", "shortest", "most", "private", "known"] (defScope s_wrong_argument_frames) := ⟨rfl, rfl, rfl, by decide +kernel, rfl, by decide +kernel, by decide +kernel⟩
abbrev s_Frame___init__ : Stmt := inClass (top 67) 0
theorem sc_Frame___init__ : FnScope ["self", "length", "shortest", "most", "private", "known", "wrong"] ["self", "length", "shortest", "most", "private", "known"] (defScope s_Frame___init__) := ⟨rfl, rfl, rfl, by decide +kernel, rfl, by decide +kernel, by decide +kernel⟩
abbrev s__law_frame_of : Stmt := top 78
theorem sc__law_frame_of : FnScope ["_law_ground_here"] ["_law_ground_here"] (defScope s__law_frame_of) := ⟨rfl, rfl, rfl, by decide +kernel, rfl, by decide +kernel, by decide +kernel⟩
abbrev s__law_take : Stmt := top 73
theorem sc__law_take : FnScope ["_law_box_here", "_law_many", "_law_near", "_law_digit"] ["_law_box_here", "_law_many"] (defScope s__law_take) := ⟨rfl, rfl, rfl, by decide +kernel, rfl, by decide +kernel, by decide +kernel⟩
abbrev s__law_pick : Stmt := top 74
theorem sc__law_pick : FnScope ["_law_box_here", "_law_some"] ["_law_box_here", "_law_some"] (defScope s__law_pick) := ⟨rfl, rfl, rfl, by decide +kernel, rfl, by decide +kernel, by decide +kernel⟩
abbrev s__law_ground : Stmt := top 77
theorem sc__law_ground : FnScope ["_law_box_here", "_law_low", "_law_wide", "_law_facts", "_law_turn", "_law_top", "_law_far", "_law_brief", "_law_pair"] ["_law_box_here", "_law_low", "_law_wide"] (defScope s__law_ground) := ⟨rfl, rfl, rfl, by decide +kernel, rfl, by decide +kernel, by decide +kernel⟩
abbrev s__law_taken : Stmt := top 80
theorem sc__law_taken : FnScope ["_law_meetings_here", "_law_found", "_law_begin", "_law_end", "_law_is_private"] ["_law_meetings_here"] (defScope s__law_taken) := ⟨rfl, rfl, rfl, by decide +kernel, rfl, by decide +kernel, by decide +kernel⟩
abbrev s__law_lets : Stmt := top 81
theorem sc__law_lets : FnScope ["_law_ground_here", "_law_meetings_here", "_law_taken_here", "_law_begin", "_law_end", "_law_is_private", "_law_tick", "_law_is_taken"] ["_law_ground_here", "_law_meetings_here"] (defScope s__law_lets) := ⟨rfl, rfl, rfl, by decide +kernel, rfl, by decide +kernel, by decide +kernel⟩
abbrev s__law_meetings : Stmt := top 79
theorem sc__law_meetings : FnScope ["_law_box_here", "_law_ground_here", "_law_far", "_law_brief", "_law_found", "_law_at", "_law_end"] ["_law_box_here", "_law_ground_here"] (defScope s__law_meetings) := ⟨rfl, rfl, rfl, by decide +kernel, rfl, by decide +kernel, by decide +kernel⟩
abbrev s__law_drawn : Stmt := top 82
theorem sc__law_drawn : FnScope ["_law_box_here", "_law_ground_here", "_law_turn", "_law_meetings_here"] ["_law_box_here", "_law_ground_here"] (defScope s__law_drawn) := ⟨rfl, rfl, rfl, by decide +kernel, rfl, by decide +kernel, by decide +kernel⟩
abbrev s__law_rule : Stmt := top 75
theorem sc__law_rule : FnScope ["_law_box_here", "_law_wide", "_law_span", "_law_low", "_law_stride", "_law_slack", "_law_begin"] ["_law_box_here", "_law_wide"] (defScope s__law_rule) := ⟨rfl, rfl, rfl, by decide +kernel, rfl, by decide +kernel, by decide +kernel⟩
abbrev s__law_sort : Stmt := top 83
theorem sc__law_sort : FnScope ["_law_rule_here", "_law_is_private"] ["_law_rule_here", "_law_is_private"] (defScope s__law_sort) := ⟨rfl, rfl, rfl, by decide +kernel, rfl, by decide +kernel, by decide +kernel⟩
abbrev s__law_painted : Stmt := top 84
theorem sc__law_painted : FnScope ["_law_rule_here", "_law_meetings_here", "_law_word", "_law_stride", "_law_slack", "_law_paint", "_law_last", "_law_begin", "_law_end", "_law_is_private", "_law_is_one", "_law_first", "_law_tick", "_law_low", "_law_high"] ["_law_rule_here", "_law_meetings_here", "_law_word"] (defScope s__law_painted) := ⟨rfl, rfl, rfl, by decide +kernel, rfl, by decide +kernel, by decide +kernel⟩
abbrev s__law_blocks : Stmt := top 85
theorem sc__law_blocks : FnScope ["_law_rule_here", "_law_meetings_here", "_law_word", "_law_paint", "_law_found", "_law_begin", "_law_tick", "_law_is_painted", "_law_low", "_law_high"] ["_law_rule_here", "_law_meetings_here", "_law_word"] (defScope s__law_blocks) := ⟨rfl, rfl, rfl, by decide +kernel, rfl, by decide +kernel, by decide +kernel⟩
abbrev s__law_show : Stmt := top 86
theorem sc__law_show : FnScope ["_law_rule_here", "_law_meetings_here"] ["_law_rule_here", "_law_meetings_here"] (defScope s__law_show) := ⟨rfl, rfl, rfl, by decide +kernel, rfl, by decide +kernel, by decide +kernel⟩
abbrev s__law_looks : Stmt := top 87
theorem sc__law_looks : FnScope ["_law_box_here", "_law_ground_here", "_law_many", "_law_day", "_law_turn", "_law_found", "_law_rule_here", "_law_other"] ["_law_box_here", "_law_ground_here", "_law_many"] (defScope s__law_looks) := ⟨rfl, rfl, rfl, by decide +kernel, rfl, by decide +kernel, by decide +kernel⟩
abbrev s__are_hours : Stmt := top 24
theorem sc__are_hours : FnScope ["value", "start", "till"] ["value"] (defScope s__are_hours) := ⟨rfl, rfl, rfl, by decide +kernel, rfl, by decide +kernel, by decide +kernel⟩
abbrev s_wrong_argument_rules : Stmt := top 25
theorem sc_wrong_argument_rules : FnScope ["step", "gap", "least", "private", "hours"] ["step", "gap", "least", "private", "hours"] (defScope s_wrong_argument_rules) := ⟨rfl, rfl, rfl, by decide +kernel, rfl, by decide +kernel, by decide +kernel⟩
abbrev s_Rule___init__ : Stmt := inClass (top 31) 0
theorem sc_Rule___init__ : FnScope ["self", "step", "gap", "least", "private", "hours", "wrong"] ["self", "step", "gap", "least", "private", "hours"] (defScope s_Rule___init__) := ⟨rfl, rfl, rfl, by decide +kernel, rfl, by decide +kernel, by decide +kernel⟩
abbrev s__law_rule_of : Stmt := top 76
theorem sc__law_rule_of : FnScope ["_law_rule_here"] ["_law_rule_here"] (defScope s__law_rule_of) := ⟨rfl, rfl, rfl, by decide +kernel, rfl, by decide +kernel, by decide +kernel⟩
abbrev s__law_looks_of : Stmt := top 88
theorem sc__law_looks_of : FnScope ["_law_looks_here", "_law_rule_here", "_law_view"] ["_law_looks_here"] (defScope s__law_looks_of) := ⟨rfl, rfl, rfl, by decide +kernel, rfl, by decide +kernel, by decide +kernel⟩
abbrev s__law_is_row : Stmt := top 91
theorem sc__law_is_row : FnScope ["_law_ground_here", "_law_letters", "_law_run", "_law_many", "_law_tick", "_law_letter", "_law_spot", "_law_is_taken"] ["_law_ground_here", "_law_letters"] (defScope s__law_is_row) := ⟨rfl, rfl, rfl, by decide +kernel, rfl, by decide +kernel, by decide +kernel⟩
abbrev s__law_runs : Stmt := top 89
theorem sc__law_runs : FnScope ["_law_rule_here", "_law_meetings_here", "_law_word", "_law_paint", "_law_found", "_law_begin", "_law_tick", "_law_is_painted"] ["_law_rule_here", "_law_meetings_here", "_law_word"] (defScope s__law_runs) := ⟨rfl, rfl, rfl, by decide +kernel, rfl, by decide +kernel, by decide +kernel⟩
abbrev s__law_part : Stmt := top 92
theorem sc__law_part : FnScope ["_law_rule_here", "_law_view", "_law_meetings_here", "_law_word", "_law_runs_here", "_law_behind", "_law_low", "_law_high", "_law_pair", "_law_block"] ["_law_rule_here", "_law_view", "_law_meetings_here", "_law_word"] (defScope s__law_part) := ⟨rfl, rfl, rfl, by decide +kernel, rfl, by decide +kernel, by decide +kernel⟩
abbrev s__law_read : Stmt := top 90
theorem sc__law_read : FnScope ["_law_letters", "_law_found", "_law_begin", "_law_sort_here", "_law_tick", "_law_letter"] ["_law_letters"] (defScope s__law_read) := ⟨rfl, rfl, rfl, by decide +kernel, rfl, by decide +kernel, by decide +kernel⟩
abbrev s__law_standing : Stmt := top 93
theorem sc__law_standing : FnScope ["_law_ground_here", "_law_looks_here", "_law_letters", "_law_is_going", "_law_sort_here", "_law_run", "_law_many", "_law_meetings_here", "_law_making", "_law_rule_here", "_law_view", "_law_parts", "_law_word"] ["_law_ground_here", "_law_looks_here", "_law_letters"] (defScope s__law_standing) := ⟨rfl, rfl, rfl, by decide +kernel, rfl, by decide +kernel, by decide +kernel⟩
abbrev s__is_block : Stmt := top 40
theorem sc__is_block : FnScope ["value", "begin", "end", "word"] ["value"] (defScope s__is_block) := ⟨rfl, rfl, rfl, by decide +kernel, rfl, by decide +kernel, by decide +kernel⟩
abbrev s_is_view : Stmt := top 41
theorem sc_is_view : FnScope ["value", "at", "block"] ["value"] (defScope s_is_view) := ⟨rfl, rfl, rfl, by decide +kernel, rfl, by decide +kernel, by decide +kernel⟩
abbrev s_is_look : Stmt := top 43
theorem sc_is_look : FnScope ["value", "rule", "view"] ["value"] (defScope s_is_look) := ⟨rfl, rfl, rfl, by decide +kernel, rfl, by decide +kernel, by decide +kernel⟩
abbrev s_check_looks : Stmt := top 44
theorem sc_check_looks : FnScope ["looks", "at", "look"] ["looks"] (defScope s_check_looks) := ⟨rfl, rfl, rfl, by decide +kernel, rfl, by decide +kernel, by decide +kernel⟩
abbrev s_is_let : Stmt := top 18
theorem sc_is_let : FnScope ["frame", "tick", "letter", "is_taken", "at", "told"] ["frame", "tick", "letter"] (defScope s_is_let) := ⟨rfl, rfl, rfl, by decide +kernel, rfl, by decide +kernel, by decide +kernel⟩
abbrev s_word_shown : Stmt := top 36
theorem sc_word_shown : FnScope ["rule", "is_private"] ["rule", "is_private"] (defScope s_word_shown) := ⟨rfl, rfl, rfl, by decide +kernel, rfl, by decide +kernel, by decide +kernel⟩
abbrev s_Maker___init__ : Stmt := inClass (top 47) 0
theorem sc_Maker___init__ : FnScope ["self", "look", "word", "rule", "view", "kind", "begin", "end", "told"] ["self", "look", "word"] (defScope s_Maker___init__) := ⟨rfl, rfl, rfl, by decide +kernel, rfl, by decide +kernel, by decide +kernel⟩
abbrev s_make_makers : Stmt := top 48
theorem sc_make_makers : FnScope ["looks", "look", "word"] ["looks"] (defScope s_make_makers) := ⟨rfl, rfl, rfl, by decide +kernel, rfl, by decide +kernel, by decide +kernel⟩
abbrev s__begun_head : Stmt := top 19
theorem sc__begun_head : FnScope ["frame", "many", "letter"] ["frame", "many", "letter"] (defScope s__begun_head) := ⟨rfl, rfl, rfl, by decide +kernel, rfl, by decide +kernel, by decide +kernel⟩
abbrev s_is_long_enough : Stmt := top 20
theorem sc_is_long_enough : FnScope ["frame", "head", "going", "run", "_"] ["frame", "head"] (defScope s_is_long_enough) := ⟨rfl, rfl, rfl, by decide +kernel, rfl, by decide +kernel, by decide +kernel⟩
abbrev s_next_head : Stmt := top 21
theorem sc_next_head : FnScope ["frame", "head", "letter", "going", "run", "many"] ["frame", "head", "letter"] (defScope s_next_head) := ⟨rfl, rfl, rfl, by decide +kernel, rfl, by decide +kernel, by decide +kernel⟩
abbrev s_Maker_takes : Stmt := inClass (top 47) 1
theorem sc_Maker_takes : FnScope ["self", "kind"] ["self", "kind"] (defScope s_Maker_takes) := ⟨rfl, rfl, rfl, by decide +kernel, rfl, by decide +kernel, by decide +kernel⟩
abbrev s_put_up : Stmt := top 35
theorem sc_put_up : FnScope ["tick", "step"] ["tick", "step"] (defScope s_put_up) := ⟨rfl, rfl, rfl, by decide +kernel, rfl, by decide +kernel, by decide +kernel⟩
abbrev s_Maker_gone_on : Stmt := inClass (top 47) 5
theorem sc_Maker_gone_on : FnScope ["self", "tally", "tick", "behind", "block"] ["self", "tally", "tick"] (defScope s_Maker_gone_on) := ⟨rfl, rfl, rfl, by decide +kernel, rfl, by decide +kernel, by decide +kernel⟩
abbrev s_span_shown : Stmt := top 38
theorem sc_span_shown : FnScope ["rule", "begin", "end", "start", "till"] ["rule", "begin", "end"] (defScope s_span_shown) := ⟨rfl, rfl, rfl, by decide +kernel, rfl, by decide +kernel, by decide +kernel⟩
abbrev s_Maker_laid : Stmt := inClass (top 47) 3
theorem sc_Maker_laid : FnScope ["self", "tally", "span", "behind", "block"] ["self", "tally"] (defScope s_Maker_laid) := ⟨rfl, rfl, rfl, by decide +kernel, rfl, by decide +kernel, by decide +kernel⟩
abbrev s_is_joined : Stmt := top 37
theorem sc_is_joined : FnScope ["rule", "word", "end", "begin"] ["rule", "word", "end", "begin"] (defScope s_is_joined) := ⟨rfl, rfl, rfl, by decide +kernel, rfl, by decide +kernel, by decide +kernel⟩
abbrev s_put_down : Stmt := top 34
theorem sc_put_down : FnScope ["tick", "step"] ["tick", "step"] (defScope s_put_down) := ⟨rfl, rfl, rfl, by decide +kernel, rfl, by decide +kernel, by decide +kernel⟩
abbrev s_Maker_started : Stmt := inClass (top 47) 4
theorem sc_Maker_started : FnScope ["self", "tally", "tick", "laid", "begin", "end", "behind", "block"] ["self", "tally", "tick"] (defScope s_Maker_started) := ⟨rfl, rfl, rfl, by decide +kernel, rfl, by decide +kernel, by decide +kernel⟩
abbrev s__next_tally : Stmt := top 51
theorem sc__next_tally : FnScope ["maker", "tally", "tick", "letter"] ["maker", "tally", "tick", "letter"] (defScope s__next_tally) := ⟨rfl, rfl, rfl, by decide +kernel, rfl, by decide +kernel, by decide +kernel⟩
abbrev s__next_pair : Stmt := top 52
theorem sc__next_pair : FnScope ["pair", "tallies", "tick", "letter", "kind", "of_busy", "of_private", "busy", "private", "behind"] ["pair", "tallies", "tick", "letter", "kind"] (defScope s__next_pair) := ⟨rfl, rfl, rfl, by decide +kernel, rfl, by decide +kernel, by decide +kernel⟩
abbrev s_next_making : Stmt := top 53
theorem sc_next_making : FnScope ["makers", "making", "tick", "letter", "kind", "told", "pair", "tallies", "behind"] ["makers", "making", "tick", "letter", "kind"] (defScope s_next_making) := ⟨rfl, rfl, rfl, by decide +kernel, rfl, by decide +kernel, by decide +kernel⟩
abbrev s_next_standing : Stmt := top 54
theorem sc_next_standing : FnScope ["frame", "makers", "tick", "standing", "letter", "head", "made", "going", "run", "many", "making"] ["frame", "makers", "tick", "standing", "letter"] (defScope s_next_standing) := ⟨rfl, rfl, rfl, by decide +kernel, rfl, by decide +kernel, by decide +kernel⟩
abbrev s_after : Stmt := top 70
theorem sc_after : FnScope ["frame", "looks", "tick", "standing", "letter"] ["frame", "looks", "tick", "standing", "letter"] (defScope s_after) := ⟨rfl, rfl, rfl, by decide +kernel, rfl, by decide +kernel, by decide +kernel⟩
abbrev s_first_standing : Stmt := top 50
theorem sc_first_standing : FnScope ["looks", "_"] ["looks"] (defScope s_first_standing) := ⟨rfl, rfl, rfl, by decide +kernel, rfl, by decide +kernel, by decide +kernel⟩
abbrev s_begun : Stmt := top 69
theorem sc_begun : FnScope ["frame", "looks"] ["frame", "looks"] (defScope s_begun) := ⟨rfl, rfl, rfl, by decide +kernel, rfl, by decide +kernel, by decide +kernel⟩
abbrev s_law : Stmt := top 94
theorem sc_law : FnScope ["_law_script", "_law_k", "_law_box_here", "_law_turn", "_law_ground_here", "_law_looks_here", "_law_here", "_law_tick", "_law_frame", "_law_seen", "_law_row", "_law_good", "_law_letter", "_law_due", "_law_told", "_law_again"] ["_law_script"] (defScope s_law) := ⟨rfl, rfl, rfl, by decide +kernel, rfl, by decide +kernel, by decide +kernel⟩
structure Ad where
  f__law_box : Addr
  f_is_integer : Addr
  f_is_number : Addr
  f__is_known : Addr
  f_is_sequence : Addr
  f__are_known : Addr
  f_is_positive : Addr
  f_wrong_argument_frames : Addr
  f__law_frame_of : Addr
  f__law_take : Addr
  f__law_pick : Addr
  f__law_ground : Addr
  f__law_taken : Addr
  f__law_lets : Addr
  f__law_meetings : Addr
  f__law_drawn : Addr
  f__law_rule : Addr
  f__law_sort : Addr
  f__law_painted : Addr
  f__law_blocks : Addr
  f__law_show : Addr
  f__law_looks : Addr
  f__are_hours : Addr
  f_wrong_argument_rules : Addr
  f__law_rule_of : Addr
  f__law_looks_of : Addr
  f__law_is_row : Addr
  f__law_runs : Addr
  f__law_part : Addr
  f__law_read : Addr
  f__law_standing : Addr
  f__is_block : Addr
  f_is_view : Addr
  f_is_look : Addr
  f_check_looks : Addr
  f_is_let : Addr
  f_word_shown : Addr
  f_make_makers : Addr
  f__begun_head : Addr
  f_is_long_enough : Addr
  f_next_head : Addr
  f_put_up : Addr
  f_span_shown : Addr
  f_is_joined : Addr
  f_put_down : Addr
  f__next_tally : Addr
  f__next_pair : Addr
  f_next_making : Addr
  f_next_standing : Addr
  f_after : Addr
  f_first_standing : Addr
  f_begun : Addr
  f_law : Addr
  f_Rule___init__ : Addr
  f_Frame___init__ : Addr
  f_Maker___init__ : Addr
  f_Maker_takes : Addr
  f_Maker_gone_on : Addr
  f_Maker_laid : Addr
  f_Maker_started : Addr
  C_Rule : Addr
  C_Frame : Addr
  C_Maker : Addr
  c_FIRST_HEAD : Addr
  c_FIRST_TALLY : Addr
  c_KINDS : Addr
  c_PRIVATE_WORDS : Addr
  c_WORDS : Addr
  z_Frame : Addr
def dv_Rule (d : Ad) : List V := [.int 1, .int 0, .int 0, .str "busy", .non]
def dv_Frame (d : Ad) : List V := [.int 1, .non, .bl false, .ref d.z_Frame]
def v_FIRST_HEAD : List V := [.str "", .int 0, .int 0]
def v_FIRST_TALLY : List V := [.int 0, .non]
def v_KINDS : List V := [.str "busy", .str "private"]
def v_PRIVATE_WORDS : List V := [.str "busy", .str "none", .str "apart", .str "one"]
def v_WORDS : List V := [.str "busy", .str "private"]
structure Txt (K : PySem.W.Frag) (mg : Str → Option Value) (d : Ad) : Prop where
  m__law_box : mg "_law_box" = some (.ref d.f__law_box)
  k__law_box : PySem.W.keepIn K (.ref d.f__law_box) = true
  F__law_box : ∃ fd, Fun K "_law_box" "_law_box" s__law_box d.f__law_box fd
  m_is_integer : mg "is_integer" = some (.ref d.f_is_integer)
  k_is_integer : PySem.W.keepIn K (.ref d.f_is_integer) = true
  F_is_integer : ∃ fd, Fun K "is_integer" "is_integer" s_is_integer d.f_is_integer fd
  m_is_number : mg "is_number" = some (.ref d.f_is_number)
  k_is_number : PySem.W.keepIn K (.ref d.f_is_number) = true
  F_is_number : ∃ fd, Fun K "is_number" "is_number" s_is_number d.f_is_number fd
  m__is_known : mg "_is_known" = some (.ref d.f__is_known)
  k__is_known : PySem.W.keepIn K (.ref d.f__is_known) = true
  F__is_known : ∃ fd, Fun K "_is_known" "_is_known" s__is_known d.f__is_known fd
  m_is_sequence : mg "is_sequence" = some (.ref d.f_is_sequence)
  k_is_sequence : PySem.W.keepIn K (.ref d.f_is_sequence) = true
  F_is_sequence : ∃ fd, Fun K "is_sequence" "is_sequence" s_is_sequence d.f_is_sequence fd
  m__are_known : mg "_are_known" = some (.ref d.f__are_known)
  k__are_known : PySem.W.keepIn K (.ref d.f__are_known) = true
  F__are_known : ∃ fd, Fun K "_are_known" "_are_known" s__are_known d.f__are_known fd
  m_is_positive : mg "is_positive" = some (.ref d.f_is_positive)
  k_is_positive : PySem.W.keepIn K (.ref d.f_is_positive) = true
  F_is_positive : ∃ fd, Fun K "is_positive" "is_positive" s_is_positive d.f_is_positive fd
  m_wrong_argument_frames : mg "wrong_argument_frames" = some (.ref d.f_wrong_argument_frames)
  k_wrong_argument_frames : PySem.W.keepIn K (.ref d.f_wrong_argument_frames) = true
  F_wrong_argument_frames : ∃ fd, Fun K "_wrong_argument" "_wrong_argument" s_wrong_argument_frames d.f_wrong_argument_frames fd
  m__law_frame_of : mg "_law_frame_of" = some (.ref d.f__law_frame_of)
  k__law_frame_of : PySem.W.keepIn K (.ref d.f__law_frame_of) = true
  F__law_frame_of : ∃ fd, Fun K "_law_frame_of" "_law_frame_of" s__law_frame_of d.f__law_frame_of fd
  m__law_take : mg "_law_take" = some (.ref d.f__law_take)
  k__law_take : PySem.W.keepIn K (.ref d.f__law_take) = true
  F__law_take : ∃ fd, Fun K "_law_take" "_law_take" s__law_take d.f__law_take fd
  m__law_pick : mg "_law_pick" = some (.ref d.f__law_pick)
  k__law_pick : PySem.W.keepIn K (.ref d.f__law_pick) = true
  F__law_pick : ∃ fd, Fun K "_law_pick" "_law_pick" s__law_pick d.f__law_pick fd
  m__law_ground : mg "_law_ground" = some (.ref d.f__law_ground)
  k__law_ground : PySem.W.keepIn K (.ref d.f__law_ground) = true
  F__law_ground : ∃ fd, Fun K "_law_ground" "_law_ground" s__law_ground d.f__law_ground fd
  m__law_taken : mg "_law_taken" = some (.ref d.f__law_taken)
  k__law_taken : PySem.W.keepIn K (.ref d.f__law_taken) = true
  F__law_taken : ∃ fd, Fun K "_law_taken" "_law_taken" s__law_taken d.f__law_taken fd
  m__law_lets : mg "_law_lets" = some (.ref d.f__law_lets)
  k__law_lets : PySem.W.keepIn K (.ref d.f__law_lets) = true
  F__law_lets : ∃ fd, Fun K "_law_lets" "_law_lets" s__law_lets d.f__law_lets fd
  m__law_meetings : mg "_law_meetings" = some (.ref d.f__law_meetings)
  k__law_meetings : PySem.W.keepIn K (.ref d.f__law_meetings) = true
  F__law_meetings : ∃ fd, Fun K "_law_meetings" "_law_meetings" s__law_meetings d.f__law_meetings fd
  m__law_drawn : mg "_law_drawn" = some (.ref d.f__law_drawn)
  k__law_drawn : PySem.W.keepIn K (.ref d.f__law_drawn) = true
  F__law_drawn : ∃ fd, Fun K "_law_drawn" "_law_drawn" s__law_drawn d.f__law_drawn fd
  m__law_rule : mg "_law_rule" = some (.ref d.f__law_rule)
  k__law_rule : PySem.W.keepIn K (.ref d.f__law_rule) = true
  F__law_rule : ∃ fd, Fun K "_law_rule" "_law_rule" s__law_rule d.f__law_rule fd
  m__law_sort : mg "_law_sort" = some (.ref d.f__law_sort)
  k__law_sort : PySem.W.keepIn K (.ref d.f__law_sort) = true
  F__law_sort : ∃ fd, Fun K "_law_sort" "_law_sort" s__law_sort d.f__law_sort fd
  m__law_painted : mg "_law_painted" = some (.ref d.f__law_painted)
  k__law_painted : PySem.W.keepIn K (.ref d.f__law_painted) = true
  F__law_painted : ∃ fd, Fun K "_law_painted" "_law_painted" s__law_painted d.f__law_painted fd
  m__law_blocks : mg "_law_blocks" = some (.ref d.f__law_blocks)
  k__law_blocks : PySem.W.keepIn K (.ref d.f__law_blocks) = true
  F__law_blocks : ∃ fd, Fun K "_law_blocks" "_law_blocks" s__law_blocks d.f__law_blocks fd
  m__law_show : mg "_law_show" = some (.ref d.f__law_show)
  k__law_show : PySem.W.keepIn K (.ref d.f__law_show) = true
  F__law_show : ∃ fd, Fun K "_law_show" "_law_show" s__law_show d.f__law_show fd
  m__law_looks : mg "_law_looks" = some (.ref d.f__law_looks)
  k__law_looks : PySem.W.keepIn K (.ref d.f__law_looks) = true
  F__law_looks : ∃ fd, Fun K "_law_looks" "_law_looks" s__law_looks d.f__law_looks fd
  m__are_hours : mg "_are_hours" = some (.ref d.f__are_hours)
  k__are_hours : PySem.W.keepIn K (.ref d.f__are_hours) = true
  F__are_hours : ∃ fd, Fun K "_are_hours" "_are_hours" s__are_hours d.f__are_hours fd
  m_wrong_argument_rules : mg "wrong_argument_rules" = some (.ref d.f_wrong_argument_rules)
  k_wrong_argument_rules : PySem.W.keepIn K (.ref d.f_wrong_argument_rules) = true
  F_wrong_argument_rules : ∃ fd, Fun K "_wrong_argument" "_wrong_argument" s_wrong_argument_rules d.f_wrong_argument_rules fd
  m__law_rule_of : mg "_law_rule_of" = some (.ref d.f__law_rule_of)
  k__law_rule_of : PySem.W.keepIn K (.ref d.f__law_rule_of) = true
  F__law_rule_of : ∃ fd, Fun K "_law_rule_of" "_law_rule_of" s__law_rule_of d.f__law_rule_of fd
  m__law_looks_of : mg "_law_looks_of" = some (.ref d.f__law_looks_of)
  k__law_looks_of : PySem.W.keepIn K (.ref d.f__law_looks_of) = true
  F__law_looks_of : ∃ fd, Fun K "_law_looks_of" "_law_looks_of" s__law_looks_of d.f__law_looks_of fd
  m__law_is_row : mg "_law_is_row" = some (.ref d.f__law_is_row)
  k__law_is_row : PySem.W.keepIn K (.ref d.f__law_is_row) = true
  F__law_is_row : ∃ fd, Fun K "_law_is_row" "_law_is_row" s__law_is_row d.f__law_is_row fd
  m__law_runs : mg "_law_runs" = some (.ref d.f__law_runs)
  k__law_runs : PySem.W.keepIn K (.ref d.f__law_runs) = true
  F__law_runs : ∃ fd, Fun K "_law_runs" "_law_runs" s__law_runs d.f__law_runs fd
  m__law_part : mg "_law_part" = some (.ref d.f__law_part)
  k__law_part : PySem.W.keepIn K (.ref d.f__law_part) = true
  F__law_part : ∃ fd, Fun K "_law_part" "_law_part" s__law_part d.f__law_part fd
  m__law_read : mg "_law_read" = some (.ref d.f__law_read)
  k__law_read : PySem.W.keepIn K (.ref d.f__law_read) = true
  F__law_read : ∃ fd, Fun K "_law_read" "_law_read" s__law_read d.f__law_read fd
  m__law_standing : mg "_law_standing" = some (.ref d.f__law_standing)
  k__law_standing : PySem.W.keepIn K (.ref d.f__law_standing) = true
  F__law_standing : ∃ fd, Fun K "_law_standing" "_law_standing" s__law_standing d.f__law_standing fd
  m__is_block : mg "_is_block" = some (.ref d.f__is_block)
  k__is_block : PySem.W.keepIn K (.ref d.f__is_block) = true
  F__is_block : ∃ fd, Fun K "_is_block" "_is_block" s__is_block d.f__is_block fd
  m_is_view : mg "is_view" = some (.ref d.f_is_view)
  k_is_view : PySem.W.keepIn K (.ref d.f_is_view) = true
  F_is_view : ∃ fd, Fun K "is_view" "is_view" s_is_view d.f_is_view fd
  m_is_look : mg "is_look" = some (.ref d.f_is_look)
  k_is_look : PySem.W.keepIn K (.ref d.f_is_look) = true
  F_is_look : ∃ fd, Fun K "is_look" "is_look" s_is_look d.f_is_look fd
  m_check_looks : mg "check_looks" = some (.ref d.f_check_looks)
  k_check_looks : PySem.W.keepIn K (.ref d.f_check_looks) = true
  F_check_looks : ∃ fd, Fun K "check_looks" "check_looks" s_check_looks d.f_check_looks fd
  m_is_let : mg "is_let" = some (.ref d.f_is_let)
  k_is_let : PySem.W.keepIn K (.ref d.f_is_let) = true
  F_is_let : ∃ fd, Fun K "is_let" "is_let" s_is_let d.f_is_let fd
  m_word_shown : mg "word_shown" = some (.ref d.f_word_shown)
  k_word_shown : PySem.W.keepIn K (.ref d.f_word_shown) = true
  F_word_shown : ∃ fd, Fun K "word_shown" "word_shown" s_word_shown d.f_word_shown fd
  m_make_makers : mg "make_makers" = some (.ref d.f_make_makers)
  k_make_makers : PySem.W.keepIn K (.ref d.f_make_makers) = true
  F_make_makers : ∃ fd, Fun K "make_makers" "make_makers" s_make_makers d.f_make_makers fd
  m__begun_head : mg "_begun_head" = some (.ref d.f__begun_head)
  k__begun_head : PySem.W.keepIn K (.ref d.f__begun_head) = true
  F__begun_head : ∃ fd, Fun K "_begun_head" "_begun_head" s__begun_head d.f__begun_head fd
  m_is_long_enough : mg "is_long_enough" = some (.ref d.f_is_long_enough)
  k_is_long_enough : PySem.W.keepIn K (.ref d.f_is_long_enough) = true
  F_is_long_enough : ∃ fd, Fun K "is_long_enough" "is_long_enough" s_is_long_enough d.f_is_long_enough fd
  m_next_head : mg "next_head" = some (.ref d.f_next_head)
  k_next_head : PySem.W.keepIn K (.ref d.f_next_head) = true
  F_next_head : ∃ fd, Fun K "next_head" "next_head" s_next_head d.f_next_head fd
  m_put_up : mg "put_up" = some (.ref d.f_put_up)
  k_put_up : PySem.W.keepIn K (.ref d.f_put_up) = true
  F_put_up : ∃ fd, Fun K "put_up" "put_up" s_put_up d.f_put_up fd
  m_span_shown : mg "span_shown" = some (.ref d.f_span_shown)
  k_span_shown : PySem.W.keepIn K (.ref d.f_span_shown) = true
  F_span_shown : ∃ fd, Fun K "span_shown" "span_shown" s_span_shown d.f_span_shown fd
  m_is_joined : mg "is_joined" = some (.ref d.f_is_joined)
  k_is_joined : PySem.W.keepIn K (.ref d.f_is_joined) = true
  F_is_joined : ∃ fd, Fun K "is_joined" "is_joined" s_is_joined d.f_is_joined fd
  m_put_down : mg "put_down" = some (.ref d.f_put_down)
  k_put_down : PySem.W.keepIn K (.ref d.f_put_down) = true
  F_put_down : ∃ fd, Fun K "put_down" "put_down" s_put_down d.f_put_down fd
  m__next_tally : mg "_next_tally" = some (.ref d.f__next_tally)
  k__next_tally : PySem.W.keepIn K (.ref d.f__next_tally) = true
  F__next_tally : ∃ fd, Fun K "_next_tally" "_next_tally" s__next_tally d.f__next_tally fd
  m__next_pair : mg "_next_pair" = some (.ref d.f__next_pair)
  k__next_pair : PySem.W.keepIn K (.ref d.f__next_pair) = true
  F__next_pair : ∃ fd, Fun K "_next_pair" "_next_pair" s__next_pair d.f__next_pair fd
  m_next_making : mg "next_making" = some (.ref d.f_next_making)
  k_next_making : PySem.W.keepIn K (.ref d.f_next_making) = true
  F_next_making : ∃ fd, Fun K "next_making" "next_making" s_next_making d.f_next_making fd
  m_next_standing : mg "next_standing" = some (.ref d.f_next_standing)
  k_next_standing : PySem.W.keepIn K (.ref d.f_next_standing) = true
  F_next_standing : ∃ fd, Fun K "next_standing" "next_standing" s_next_standing d.f_next_standing fd
  m_after : mg "after" = some (.ref d.f_after)
  k_after : PySem.W.keepIn K (.ref d.f_after) = true
  F_after : ∃ fd, Fun K "after" "after" s_after d.f_after fd
  m_first_standing : mg "first_standing" = some (.ref d.f_first_standing)
  k_first_standing : PySem.W.keepIn K (.ref d.f_first_standing) = true
  F_first_standing : ∃ fd, Fun K "first_standing" "first_standing" s_first_standing d.f_first_standing fd
  m_begun : mg "begun" = some (.ref d.f_begun)
  k_begun : PySem.W.keepIn K (.ref d.f_begun) = true
  F_begun : ∃ fd, Fun K "begun" "begun" s_begun d.f_begun fd
  m_law : mg "law" = some (.ref d.f_law)
  k_law : PySem.W.keepIn K (.ref d.f_law) = true
  F_law : ∃ fd, Fun K "law" "law" s_law d.f_law fd
  F_Rule___init__ : ∃ fd, FunD K "__init__" "Rule.__init__" (defArgs s_Rule___init__) (defBody s_Rule___init__) (defScope s_Rule___init__) (dv_Rule d) [] d.f_Rule___init__ fd
  F_Frame___init__ : ∃ fd, FunD K "__init__" "Frame.__init__" (defArgs s_Frame___init__) (defBody s_Frame___init__) (defScope s_Frame___init__) (dv_Frame d) [] d.f_Frame___init__ fd
  F_Maker___init__ : ∃ fd, Fun K "__init__" "Maker.__init__" s_Maker___init__ d.f_Maker___init__ fd
  F_Maker_takes : ∃ fd, Fun K "takes" "Maker.takes" s_Maker_takes d.f_Maker_takes fd
  me_Maker_takes : Meth K d.C_Maker "takes" d.f_Maker_takes
  F_Maker_gone_on : ∃ fd, Fun K "gone_on" "Maker.gone_on" s_Maker_gone_on d.f_Maker_gone_on fd
  me_Maker_gone_on : Meth K d.C_Maker "gone_on" d.f_Maker_gone_on
  F_Maker_laid : ∃ fd, Fun K "laid" "Maker.laid" s_Maker_laid d.f_Maker_laid fd
  me_Maker_laid : Meth K d.C_Maker "laid" d.f_Maker_laid
  F_Maker_started : ∃ fd, Fun K "started" "Maker.started" s_Maker_started d.f_Maker_started fd
  me_Maker_started : Meth K d.C_Maker "started" d.f_Maker_started
  m_Rule : mg "Rule" = some (.ref d.C_Rule)
  cl_Rule : Cls K d.C_Rule
  mk_Rule : Mk K d.C_Rule d.f_Rule___init__
  na_Rule_length : NoAttr K d.C_Rule "length"
  na_Rule_private : NoAttr K d.C_Rule "private"
  na_Rule_step : NoAttr K d.C_Rule "step"
  na_Rule_gap : NoAttr K d.C_Rule "gap"
  na_Rule_least : NoAttr K d.C_Rule "least"
  na_Rule_hours : NoAttr K d.C_Rule "hours"
  ks_Rule : PySem.W.kitOne K (.type "str") (.ref d.C_Rule) = some false
  su_Rule : PySem.W.subIn K (.type "str") (.ref d.C_Rule) = some false
  sb_Rule_int : PySem.W.subIn K (.ref d.C_Rule) (.type "int") = some false
  sb_Rule_bool : PySem.W.subIn K (.ref d.C_Rule) (.type "bool") = some false
  sb_Rule_str : PySem.W.subIn K (.ref d.C_Rule) (.type "str") = some false
  sb_Rule_tuple : PySem.W.subIn K (.ref d.C_Rule) (.type "tuple") = some false
  sb_Rule_list : PySem.W.subIn K (.ref d.C_Rule) (.type "list") = some false
  o_Rule : PySem.W.mroIn K d.C_Rule (.type "object") = some true
  ic_Rule : PySem.W.findIn K (.ref d.C_Rule) "__class__" = some (some (.builtin "object.__class__"))
  m_Frame : mg "Frame" = some (.ref d.C_Frame)
  cl_Frame : Cls K d.C_Frame
  mk_Frame : Mk K d.C_Frame d.f_Frame___init__
  na_Frame_length : NoAttr K d.C_Frame "length"
  na_Frame_shortest : NoAttr K d.C_Frame "shortest"
  na_Frame_most : NoAttr K d.C_Frame "most"
  na_Frame_private : NoAttr K d.C_Frame "private"
  na_Frame_known : NoAttr K d.C_Frame "known"
  ks_Frame : PySem.W.kitOne K (.type "str") (.ref d.C_Frame) = some false
  su_Frame : PySem.W.subIn K (.type "str") (.ref d.C_Frame) = some false
  sb_Frame_int : PySem.W.subIn K (.ref d.C_Frame) (.type "int") = some false
  sb_Frame_bool : PySem.W.subIn K (.ref d.C_Frame) (.type "bool") = some false
  sb_Frame_str : PySem.W.subIn K (.ref d.C_Frame) (.type "str") = some false
  sb_Frame_tuple : PySem.W.subIn K (.ref d.C_Frame) (.type "tuple") = some false
  sb_Frame_list : PySem.W.subIn K (.ref d.C_Frame) (.type "list") = some false
  o_Frame : PySem.W.mroIn K d.C_Frame (.type "object") = some true
  ic_Frame : PySem.W.findIn K (.ref d.C_Frame) "__class__" = some (some (.builtin "object.__class__"))
  m_Maker : mg "Maker" = some (.ref d.C_Maker)
  cl_Maker : Cls K d.C_Maker
  mk_Maker : Mk K d.C_Maker d.f_Maker___init__
  na_Maker_rule : NoAttr K d.C_Maker "rule"
  na_Maker_word : NoAttr K d.C_Maker "word"
  na_Maker_spans : NoAttr K d.C_Maker "spans"
  na_Maker_kinds : NoAttr K d.C_Maker "kinds"
  ks_Maker : PySem.W.kitOne K (.type "str") (.ref d.C_Maker) = some false
  su_Maker : PySem.W.subIn K (.type "str") (.ref d.C_Maker) = some false
  sb_Maker_int : PySem.W.subIn K (.ref d.C_Maker) (.type "int") = some false
  sb_Maker_bool : PySem.W.subIn K (.ref d.C_Maker) (.type "bool") = some false
  sb_Maker_str : PySem.W.subIn K (.ref d.C_Maker) (.type "str") = some false
  sb_Maker_tuple : PySem.W.subIn K (.ref d.C_Maker) (.type "tuple") = some false
  sb_Maker_list : PySem.W.subIn K (.ref d.C_Maker) (.type "list") = some false
  o_Maker : PySem.W.mroIn K d.C_Maker (.type "object") = some true
  ic_Maker : PySem.W.findIn K (.ref d.C_Maker) "__class__" = some (some (.builtin "object.__class__"))
  oc1 : PySem.W.specialIn K (.builtin "object.__class__") "__get__" = some (some (.builtin "getset_descriptor.__get__"))
  oc2 : PySem.W.takesIn K (.builtin "object.__class__") = some true
  w_zFrame : ∀ H, SqT K H d.z_Frame []
  b_abs : mg "abs" = none
  b_all : mg "all" = none
  b_bool : mg "bool" = none
  b_enumerate : mg "enumerate" = none
  b_int : mg "int" = none
  b_isinstance : mg "isinstance" = none
  b_len : mg "len" = none
  b_list : mg "list" = none
  b_max : mg "max" = none
  b_min : mg "min" = none
  b_range : mg "range" = none
  b_repr : mg "repr" = none
  b_sorted : mg "sorted" = none
  b_tuple : mg "tuple" = none
  b_zip : mg "zip" = none
  m_FIRST_HEAD : mg "FIRST_HEAD" = some (.ref d.c_FIRST_HEAD)
  w_FIRST_HEAD : ∀ H, SqT K H d.c_FIRST_HEAD v_FIRST_HEAD
  m_FIRST_TALLY : mg "FIRST_TALLY" = some (.ref d.c_FIRST_TALLY)
  w_FIRST_TALLY : ∀ H, SqT K H d.c_FIRST_TALLY v_FIRST_TALLY
  m_KINDS : mg "KINDS" = some (.ref d.c_KINDS)
  w_KINDS : ∀ H, SqT K H d.c_KINDS v_KINDS
  m_PRIVATE_WORDS : mg "PRIVATE_WORDS" = some (.ref d.c_PRIVATE_WORDS)
  w_PRIVATE_WORDS : ∀ H, SqT K H d.c_PRIVATE_WORDS v_PRIVATE_WORDS
  m_WORDS : mg "WORDS" = some (.ref d.c_WORDS)
  w_WORDS : ∀ H, SqT K H d.c_WORDS v_WORDS
section
variable {P : Program} {w : World} {K : PySem.W.Frag} {mg : Str → Option Value} {base : Heap}
theorem vals_abs : ∀ {us : List Value} {vs : List V}, us.mapM absV = some vs → Vals vs us
  | [], vs, h => by
    simp at h
    subst h
    exact .nil
  | u :: us, vs, h => by
    rw [List.mapM_cons] at h
    cases e : absV u with
    | none => rw [e] at h; simp at h
    | some v =>
      cases e2 : us.mapM absV with
      | none => rw [e, e2] at h; simp at h
      | some ws =>
        rw [e, e2] at h
        simp at h
        subst h
        refine .cons ?_ (vals_abs e2)
        cases u <;> simp [absV] at e <;> subst e <;> first | rfl | exact ⟨_, rfl⟩
theorem sqt_mk {H : Hp} {c : Addr} {td : Option Addr} {it : Array Value} {n : Nat} {ts : Array (Option Value)} {vs : List V} (l : K.lookup c = some ⟨.type "tuple", td, .seq it n, ts⟩) (lv : it.toList.mapM absV = some vs) (hz : vs.length ≤ sizeLine) : SqT K H c vs := by
  have r := vals_abs lv
  refine .inr ⟨_, it, n, l, rfl, rfl, ?_, r⟩
  rw [← Array.length_toList, ← r.length]
  exact hz
theorem fund_mk {x qual : Str} {st : Stmt} {f T : Addr} {oc tc : Value} {od an td : Option Addr} {osl ts : Array (Option Value)} {it : Array Value} {tn : Nat} {kV doc pm cdv ct : Value} {dvs : List V}
    (l : K.lookup f = some ⟨oc, od, .func (PySem.W.fnOf x qual (defArgs st) (defBody st) (defScope st) (.ref T) kV doc pm an cdv ct), osl⟩) (lt : K.lookup T = some ⟨tc, td, .seq it tn, ts⟩) (lv : it.toList.mapM absV = some dvs) (hn : dvs ≠ [])
    (c : PySem.W.codeIn K cdv qual = true) (k : PySem.W.keepIn K (.ref f) = true) : FunD K x qual (defArgs st) (defBody st) (defScope st) dvs [] f (PySem.W.fnOf x qual (defArgs st) (defBody st) (defScope st) (.ref T) kV doc pm an cdv ct) :=
  ⟨⟨oc, od, .ref T, kV, doc, pm, an, cdv, ct, osl, rfl, l, c, .inr ⟨hn, T, _, it.toList, tn, rfl, lt, by simp, vals_abs lv⟩, .inl rfl⟩, k⟩
end
abbrev cl (d : Ad) : DL.Cl := ⟨d.C_Rule, d.C_Rule, d.C_Frame, 0, 0, 0, 0, 0, 0, 0, 0, 0, 0, d.C_Maker, d.C_Rule, d.C_Rule, d.C_Rule, d.C_Rule⟩
section
variable {K : PySem.W.Frag} {mg : Str → Option Value} {d : Ad}
open DL
theorem fa_shortest (T : Txt K mg d) : ∀ C ∈ [(cl d).Frame], Cls K C ∧ NoAttr K C "shortest" := by
  intro C h
  simp only [List.mem_cons, List.not_mem_nil, or_false] at h
  rcases h with rfl
  · exact ⟨T.cl_Frame, T.na_Frame_shortest⟩
theorem fa_most (T : Txt K mg d) : ∀ C ∈ [(cl d).Frame], Cls K C ∧ NoAttr K C "most" := by
  intro C h
  simp only [List.mem_cons, List.not_mem_nil, or_false] at h
  rcases h with rfl
  · exact ⟨T.cl_Frame, T.na_Frame_most⟩
theorem fa_private (T : Txt K mg d) : ∀ C ∈ [(cl d).Rule, (cl d).Frame], Cls K C ∧ NoAttr K C "private" := by
  intro C h
  simp only [List.mem_cons, List.not_mem_nil, or_false] at h
  rcases h with rfl | rfl
  · exact ⟨T.cl_Rule, T.na_Rule_private⟩
  · exact ⟨T.cl_Frame, T.na_Frame_private⟩
theorem fa_known (T : Txt K mg d) : ∀ C ∈ [(cl d).Frame], Cls K C ∧ NoAttr K C "known" := by
  intro C h
  simp only [List.mem_cons, List.not_mem_nil, or_false] at h
  rcases h with rfl
  · exact ⟨T.cl_Frame, T.na_Frame_known⟩
theorem fa_step (T : Txt K mg d) : ∀ C ∈ [(cl d).Rule], Cls K C ∧ NoAttr K C "step" := by
  intro C h
  simp only [List.mem_cons, List.not_mem_nil, or_false] at h
  rcases h with rfl
  · exact ⟨T.cl_Rule, T.na_Rule_step⟩
theorem fa_gap (T : Txt K mg d) : ∀ C ∈ [(cl d).Rule], Cls K C ∧ NoAttr K C "gap" := by
  intro C h
  simp only [List.mem_cons, List.not_mem_nil, or_false] at h
  rcases h with rfl
  · exact ⟨T.cl_Rule, T.na_Rule_gap⟩
theorem fa_least (T : Txt K mg d) : ∀ C ∈ [(cl d).Rule], Cls K C ∧ NoAttr K C "least" := by
  intro C h
  simp only [List.mem_cons, List.not_mem_nil, or_false] at h
  rcases h with rfl
  · exact ⟨T.cl_Rule, T.na_Rule_least⟩
theorem fa_hours (T : Txt K mg d) : ∀ C ∈ [(cl d).Rule], Cls K C ∧ NoAttr K C "hours" := by
  intro C h
  simp only [List.mem_cons, List.not_mem_nil, or_false] at h
  rcases h with rfl
  · exact ⟨T.cl_Rule, T.na_Rule_hours⟩
theorem fa_rule (T : Txt K mg d) : ∀ C ∈ [(cl d).Maker], Cls K C ∧ NoAttr K C "rule" := by
  intro C h
  simp only [List.mem_cons, List.not_mem_nil, or_false] at h
  rcases h with rfl
  · exact ⟨T.cl_Maker, T.na_Maker_rule⟩
theorem fa_word (T : Txt K mg d) : ∀ C ∈ [(cl d).Maker], Cls K C ∧ NoAttr K C "word" := by
  intro C h
  simp only [List.mem_cons, List.not_mem_nil, or_false] at h
  rcases h with rfl
  · exact ⟨T.cl_Maker, T.na_Maker_word⟩
theorem fa_spans (T : Txt K mg d) : ∀ C ∈ [(cl d).Maker], Cls K C ∧ NoAttr K C "spans" := by
  intro C h
  simp only [List.mem_cons, List.not_mem_nil, or_false] at h
  rcases h with rfl
  · exact ⟨T.cl_Maker, T.na_Maker_spans⟩
theorem fa_kinds (T : Txt K mg d) : ∀ C ∈ [(cl d).Maker], Cls K C ∧ NoAttr K C "kinds" := by
  intro C h
  simp only [List.mem_cons, List.not_mem_nil, or_false] at h
  rcases h with rfl
  · exact ⟨T.cl_Maker, T.na_Maker_kinds⟩
theorem fs_Rule_step (T : Txt K mg d) : ∀ C ∈ [(cl d).Rule], Cls K C ∧ NoAttr K C "step" := by
  intro C h
  simp only [List.mem_cons, List.not_mem_nil, or_false] at h
  subst h
  exact ⟨T.cl_Rule, T.na_Rule_step⟩
theorem fs_Rule_gap (T : Txt K mg d) : ∀ C ∈ [(cl d).Rule], Cls K C ∧ NoAttr K C "gap" := by
  intro C h
  simp only [List.mem_cons, List.not_mem_nil, or_false] at h
  subst h
  exact ⟨T.cl_Rule, T.na_Rule_gap⟩
theorem fs_Rule_least (T : Txt K mg d) : ∀ C ∈ [(cl d).Rule], Cls K C ∧ NoAttr K C "least" := by
  intro C h
  simp only [List.mem_cons, List.not_mem_nil, or_false] at h
  subst h
  exact ⟨T.cl_Rule, T.na_Rule_least⟩
theorem fs_Rule_private (T : Txt K mg d) : ∀ C ∈ [(cl d).Rule], Cls K C ∧ NoAttr K C "private" := by
  intro C h
  simp only [List.mem_cons, List.not_mem_nil, or_false] at h
  subst h
  exact ⟨T.cl_Rule, T.na_Rule_private⟩
theorem fs_Rule_hours (T : Txt K mg d) : ∀ C ∈ [(cl d).Rule], Cls K C ∧ NoAttr K C "hours" := by
  intro C h
  simp only [List.mem_cons, List.not_mem_nil, or_false] at h
  subst h
  exact ⟨T.cl_Rule, T.na_Rule_hours⟩
theorem fs_Frame_length (T : Txt K mg d) : ∀ C ∈ [(cl d).Frame], Cls K C ∧ NoAttr K C "length" := by
  intro C h
  simp only [List.mem_cons, List.not_mem_nil, or_false] at h
  subst h
  exact ⟨T.cl_Frame, T.na_Frame_length⟩
theorem fs_Frame_shortest (T : Txt K mg d) : ∀ C ∈ [(cl d).Frame], Cls K C ∧ NoAttr K C "shortest" := by
  intro C h
  simp only [List.mem_cons, List.not_mem_nil, or_false] at h
  subst h
  exact ⟨T.cl_Frame, T.na_Frame_shortest⟩
theorem fs_Frame_most (T : Txt K mg d) : ∀ C ∈ [(cl d).Frame], Cls K C ∧ NoAttr K C "most" := by
  intro C h
  simp only [List.mem_cons, List.not_mem_nil, or_false] at h
  subst h
  exact ⟨T.cl_Frame, T.na_Frame_most⟩
theorem fs_Frame_private (T : Txt K mg d) : ∀ C ∈ [(cl d).Frame], Cls K C ∧ NoAttr K C "private" := by
  intro C h
  simp only [List.mem_cons, List.not_mem_nil, or_false] at h
  subst h
  exact ⟨T.cl_Frame, T.na_Frame_private⟩
theorem fs_Frame_known (T : Txt K mg d) : ∀ C ∈ [(cl d).Frame], Cls K C ∧ NoAttr K C "known" := by
  intro C h
  simp only [List.mem_cons, List.not_mem_nil, or_false] at h
  subst h
  exact ⟨T.cl_Frame, T.na_Frame_known⟩
theorem fs_Maker_rule (T : Txt K mg d) : ∀ C ∈ [(cl d).Maker], Cls K C ∧ NoAttr K C "rule" := by
  intro C h
  simp only [List.mem_cons, List.not_mem_nil, or_false] at h
  subst h
  exact ⟨T.cl_Maker, T.na_Maker_rule⟩
theorem fs_Maker_word (T : Txt K mg d) : ∀ C ∈ [(cl d).Maker], Cls K C ∧ NoAttr K C "word" := by
  intro C h
  simp only [List.mem_cons, List.not_mem_nil, or_false] at h
  subst h
  exact ⟨T.cl_Maker, T.na_Maker_word⟩
theorem fs_Maker_spans (T : Txt K mg d) : ∀ C ∈ [(cl d).Maker], Cls K C ∧ NoAttr K C "spans" := by
  intro C h
  simp only [List.mem_cons, List.not_mem_nil, or_false] at h
  subst h
  exact ⟨T.cl_Maker, T.na_Maker_spans⟩
theorem fs_Maker_kinds (T : Txt K mg d) : ∀ C ∈ [(cl d).Maker], Cls K C ∧ NoAttr K C "kinds" := by
  intro C h
  simp only [List.mem_cons, List.not_mem_nil, or_false] at h
  subst h
  exact ⟨T.cl_Maker, T.na_Maker_kinds⟩
theorem tyc (T : Txt K mg d) : ∀ C ∈ [(cl d).Day, (cl d).Rule, (cl d).Frame], TyC K C := by
  intro C h
  simp only [List.mem_cons, List.not_mem_nil, or_false] at h
  rcases h with rfl | rfl | rfl
  · exact ⟨T.cl_Rule, T.ic_Rule, T.oc1, T.oc2, T.o_Rule⟩
  · exact ⟨T.cl_Rule, T.ic_Rule, T.oc1, T.oc2, T.o_Rule⟩
  · exact ⟨T.cl_Frame, T.ic_Frame, T.oc1, T.oc2, T.o_Frame⟩
theorem kit_ok (T : Txt K mg d) : KitOk K (kitD [(cl d).Day, (cl d).Rule, (cl d).Frame]) := kitD_ok (fun C h => by
  simp only [List.mem_cons, List.not_mem_nil, or_false] at h
  rcases h with rfl | rfl | rfl
  · exact T.ks_Rule
  · exact T.ks_Rule
  · exact T.ks_Frame) (fun C h b hb => by
  simp only [List.mem_cons, List.not_mem_nil, or_false] at h
  simp only [blts, List.mem_cons, List.not_mem_nil, or_false] at hb
  rcases h with rfl | rfl | rfl
  · rcases hb with rfl | rfl | rfl | rfl | rfl
    · exact T.sb_Rule_int
    · exact T.sb_Rule_bool
    · exact T.sb_Rule_str
    · exact T.sb_Rule_tuple
    · exact T.sb_Rule_list
  · rcases hb with rfl | rfl | rfl | rfl | rfl
    · exact T.sb_Rule_int
    · exact T.sb_Rule_bool
    · exact T.sb_Rule_str
    · exact T.sb_Rule_tuple
    · exact T.sb_Rule_list
  · rcases hb with rfl | rfl | rfl | rfl | rfl
    · exact T.sb_Frame_int
    · exact T.sb_Frame_bool
    · exact T.sb_Frame_str
    · exact T.sb_Frame_tuple
    · exact T.sb_Frame_list)
theorem rp_FIRST_HEAD (T : Txt K mg d) (G : Hp) : Rep K G (.ref d.c_FIRST_HEAD) (.tup [(.str ""), (.int 0), (.int 0)]) := .tup (T.w_FIRST_HEAD G) (.cons (.str _) (.cons (.int _) (.cons (.int _) RepA.nil)))
theorem rp_FIRST_TALLY (T : Txt K mg d) (G : Hp) : Rep K G (.ref d.c_FIRST_TALLY) (.tup [(.int 0), .non]) := .tup (T.w_FIRST_TALLY G) (.cons (.int _) (.cons .non RepA.nil))
theorem rp_KINDS (T : Txt K mg d) (G : Hp) : Rep K G (.ref d.c_KINDS) (.tup [(.str "busy"), (.str "private")]) := .tup (T.w_KINDS G) (.cons (.str _) (.cons (.str _) RepA.nil))
theorem rp_PRIVATE_WORDS (T : Txt K mg d) (G : Hp) : Rep K G (.ref d.c_PRIVATE_WORDS) (.tup [(.str "busy"), (.str "none"), (.str "apart"), (.str "one")]) := .tup (T.w_PRIVATE_WORDS G) (.cons (.str _) (.cons (.str _) (.cons (.str _) (.cons (.str _) RepA.nil))))
theorem rp_WORDS (T : Txt K mg d) (G : Hp) : Rep K G (.ref d.c_WORDS) (.tup [(.str "busy"), (.str "private")]) := .tup (T.w_WORDS G) (.cons (.str _) (.cons (.str _) RepA.nil))
end
end DD
set_option Elab.async false
set_option linter.all false
set_option maxRecDepth 100000
set_option maxHeartbeats 4000000
namespace DL
open PySem PySem.Spec PyProof.Rows L2 DD
noncomputable def D_put_down (c : Cl) : En → SR :=
  (sRet (dBin opMul (dBin opFdiv (dVar 0) (dVar 1)) (dVar 1)))
noncomputable def D_put_up (c : Cl) : En → SR :=
  (sRet (dBin opMul (dBin opFdiv (dBin opSub (dBin opAdd (dVar 0) (dVar 1)) (dC (.int 1))) (dVar 1)) (dVar 1)))
noncomputable def D_word_shown (c : Cl) : En → SR :=
  (sSeq (sIf (tor (tnot (dTest (dVar 1))) (dTest (dBin opEq (dFld [c.Rule, c.Frame] "private" (dVar 0)) (dC (.str "busy"))))) (sRet (dC (.str "busy"))) sNext) (sSeq (sIf (dTest (dBin opEq (dFld [c.Rule, c.Frame] "private" (dVar 0)) (dC (.str "none")))) (sRet (dC .non)) sNext) (sRet (dC (.str "private")))))
noncomputable def D_is_joined (c : Cl) : En → SR :=
  (sSeq (sIf (tnd (dTest (dBin opEq (dVar 1) (dC (.str "private")))) (dTest (dBin opEq (dFld [c.Rule, c.Frame] "private" (dVar 0)) (dC (.str "one"))))) (sRet (dC (.bl true))) sNext) (sRet (dBin opLe (dBin opSub (dVar 3) (dVar 2)) (dFld [c.Rule] "gap" (dVar 0)))))
noncomputable def D_span_shown (c : Cl) : En → SR :=
  (sSeq (sIf (dTest (dBin opLt (dBin opSub (dVar 2) (dVar 1)) (dFld [c.Rule] "least" (dVar 0)))) (sRet (dC .non)) sNext) (sSeq (sIf (dTest (dIsN (dFld [c.Rule] "hours" (dVar 0)))) (sRet (dTup (aCons (dVar 1) (aCons (dVar 2) aNil)))) sNext) (sSeq (sTgt (uTup 2 (usCons (uName 3) (usCons (uName 4) usNil))) (dFld [c.Rule] "hours" (dVar 0))) (sSeq (sMulti [1, 2] (nCons (dCB fMax (aCons (dVar 1) (aCons (dVar 3) aNil))) (nCons (dCB fMin (aCons (dVar 2) (aCons (dVar 4) aNil))) aNil))) (sRet (dIfE (dTest (dBin opLt (dVar 1) (dVar 2))) (dTup (aCons (dVar 1) (aCons (dVar 2) aNil))) (dC .non)))))))
noncomputable def D_is_integer (c : Cl) : En → SR :=
  (sRet (dAnd (dIsi (kitD [c.Day, c.Rule, c.Frame]) [c.Day, c.Rule, c.Frame] [(.type "int")] (dVar 0)) (dNot (dIsi (kitD [c.Day, c.Rule, c.Frame]) [c.Day, c.Rule, c.Frame] [(.type "bool")] (dVar 0)))))
noncomputable def D_is_number (c : Cl) : En → SR :=
  (sRet (dAnd (dCall 1 1 (D_is_integer c) (aCons (dVar 0) aNil)) (dBin opGe (dVar 0) (dC (.int 0)))))
noncomputable def D_is_positive (c : Cl) : En → SR :=
  (sRet (dAnd (dCall 1 1 (D_is_integer c) (aCons (dVar 0) aNil)) (dBin opGe (dVar 0) (dC (.int 1)))))
noncomputable def D_is_sequence (c : Cl) : En → SR :=
  (sRet (dIsi (kitD [c.Day, c.Rule, c.Frame]) [c.Day, c.Rule, c.Frame] [(.type "list"), (.type "tuple")] (dVar 0)))
noncomputable def D__are_hours (c : Cl) : En → SR :=
  (sSeq (sIf (dTest (dIsN (dVar 0))) (sRet (dC (.bl true))) sNext) (sSeq (sIf (tor (tnot (dTest (dIsi (kitD [c.Day, c.Rule, c.Frame]) [c.Day, c.Rule, c.Frame] [(.type "tuple")] (dVar 0)))) (dTest (dBin opNe (dCB fLen (aCons (dVar 0) aNil)) (dC (.int 2))))) (sRet (dC (.bl false))) sNext) (sSeq (sTgt (uTup 2 (usCons (uName 1) (usCons (uName 2) usNil))) (dVar 0)) (sRet (dAnd (dCall 1 1 (D_is_number c) (aCons (dVar 1) aNil)) (dAnd (dCall 1 1 (D_is_number c) (aCons (dVar 2) aNil)) (dBin opLt (dVar 1) (dVar 2))))))))
noncomputable def D__wrong_argument (c : Cl) : En → SR :=
  (sSeq (sIf (tnot (dTest (dCall 1 1 (D_is_positive c) (aCons (dVar 0) aNil)))) (sRet (dC (.str "step"))) sNext) (sSeq (sIf (tnot (dTest (dCall 1 1 (D_is_number c) (aCons (dVar 1) aNil)))) (sRet (dC (.str "gap"))) sNext) (sSeq (sIf (tnot (dTest (dCall 1 1 (D_is_number c) (aCons (dVar 2) aNil)))) (sRet (dC (.str "least"))) sNext) (sSeq (sIf (dTest (dBin opNotIn (dVar 3) (dC (.tup [(.str "busy"), (.str "none"), (.str "apart"), (.str "one")])))) (sRet (dC (.str "private"))) sNext) (sSeq (sIf (tnot (dTest (dCall 1 3 (D__are_hours c) (aCons (dVar 4) aNil)))) (sRet (dC (.str "hours"))) sNext) (sRet (dC .non)))))))
noncomputable def D_Rule___init__ (c : Cl) : En → SR :=
  (sSeq (sSet 6 (dCall 5 5 (D__wrong_argument c) (aCons (dVar 1) (aCons (dVar 2) (aCons (dVar 3) (aCons (dVar 4) (aCons (dVar 5) aNil))))))) (sSeq (sIf (dTest (dNotN (dVar 6))) sDead sNext) (sSeq (sFldD [c.Rule] 0 "step" (dVar 1)) (sSeq (sFldD [c.Rule] 0 "gap" (dVar 2)) (sSeq (sFldD [c.Rule] 0 "least" (dVar 3)) (sSeq (sFldD [c.Rule] 0 "private" (dVar 4)) (sFldD [c.Rule] 0 "hours" (dVar 5))))))))
noncomputable def D__law_made_rule (c : Cl) : En → SR :=
  (sRet (dMake c.Rule 6 7 (fun ρ => D_Rule___init__ c (fillD 6 [] ρ)) (aCons (dBin opIx (dVar 0) (dC (.int 0))) (aCons (dBin opIx (dVar 0) (dC (.int 1))) (aCons (dBin opIx (dVar 0) (dC (.int 2))) (aCons (dBin opIx (dVar 0) (dC (.int 3))) (aCons (dBin opIx (dVar 0) (dC (.int 4))) aNil)))))))
noncomputable def D__law_painted_b1 (c : Cl) : En → SR :=
  (sSeq (sSet 7 (dIfE (tnd (dTest (dVar 6)) (dTest (dBin opIn (dBin opIx (dVar 0) (dC (.int 3))) (dTup (aCons (dC (.str "apart")) (aCons (dC (.str "one")) aNil)))))) (dC (.str "private")) (dC (.str "busy")))) (sIf (tnd (dTest (dBin opEq (dVar 7) (dVar 2))) (tnot (tnd (dTest (dVar 6)) (dTest (dBin opEq (dBin opIx (dVar 0) (dC (.int 3))) (dC (.str "none"))))))) (sSeq (sSet 8 (dBin opSub (dVar 4) (dBin opMod (dCB fInt (aCons (dVar 4) aNil)) (dBin opIx (dVar 0) (dC (.int 0)))))) (sSeq (sSet 9 (dBin opAdd (dVar 5) (dBin opMod (dCB fInt (aCons (dBin opSub (dC (.int 0)) (dVar 5)) aNil)) (dBin opIx (dVar 0) (dC (.int 0)))))) (sSeq (sSet 10 (dIfE (dTest (dBin opNe (dVar 3) (dLst aNil))) (dBin opIx (dVar 3) (dUn opNeg (dC (.int 1)))) (dBin opSub (dC (.int 0)) (dC (.int 99))))) (sSeq (sSet 11 (dAnd (dBin opGe (dVar 10) (dC (.int 0))) (dAnd (dBin opEq (dVar 2) (dC (.str "private"))) (dBin opEq (dBin opIx (dVar 0) (dC (.int 3))) (dC (.str "one")))))) (sSeq (sIf (tor (dTest (dBin opLe (dBin opSub (dBin opSub (dVar 8) (dVar 10)) (dC (.int 1))) (dBin opIx (dVar 0) (dC (.int 1))))) (dTest (dVar 11))) (sSet 8 (dBin opAdd (dVar 10) (dC (.int 1)))) sNext) (sDrop (eMut 3 mExtend (aCons (dLc (dRng2 (dVar 8) (dVar 9)) [12] (uName 12) (dTest (dBin opNotIn (dVar 12) (dVar 3))) (dVar 12)) aNil)))))))) sNext))
noncomputable def D__law_painted (c : Cl) : En → SR :=
  (sSeq (sSet 3 (dLst aNil)) (sSeq (sForS (dBin opIx (dVar 1) (dC (.int 1))) (uTup 3 (usCons (uName 4) (usCons (uName 5) (usCons (uName 6) usNil)))) (D__law_painted_b1 c)) (sRet (dVar 3))))
noncomputable def D__is_block (c : Cl) : En → SR :=
  (sSeq (sIf (tor (tnot (dTest (dIsi (kitD [c.Day, c.Rule, c.Frame]) [c.Day, c.Rule, c.Frame] [(.type "tuple")] (dVar 0)))) (dTest (dBin opNe (dCB fLen (aCons (dVar 0) aNil)) (dC (.int 3))))) (sRet (dC (.bl false))) sNext) (sSeq (sTgt (uTup 3 (usCons (uName 1) (usCons (uName 2) (usCons (uName 3) usNil)))) (dVar 0)) (sRet (dAnd (dCall 1 1 (D_is_number c) (aCons (dVar 1) aNil)) (dAnd (dCall 1 1 (D_is_number c) (aCons (dVar 2) aNil)) (dAnd (dBin opLt (dVar 1) (dVar 2)) (dBin opIn (dVar 3) (dC (.tup [(.str "busy"), (.str "private")])))))))))
noncomputable def D_is_view (c : Cl) : En → SR :=
  (sSeq (sIf (tnot (dTest (dIsi (kitD [c.Day, c.Rule, c.Frame]) [c.Day, c.Rule, c.Frame] [(.type "tuple")] (dVar 0)))) (sRet (dC (.bl false))) sNext) (sSeq (sIf (tnot (dTest (dCB fAll (aCons (dLcS (dVar 0) [2] (uName 2) tdYes (dCall 1 4 (D__is_block c) (aCons (dVar 2) aNil))) aNil)))) (sRet (dC (.bl false))) sNext) (sRet (dCB fAll (aCons (dLc (dRng1 (dBin opSub (dCB fLen (aCons (dVar 0) aNil)) (dC (.int 1)))) [1] (uName 1) tdYes (dBin opLt (dBin opIx (dVar 0) (dVar 1)) (dBin opIx (dVar 0) (dBin opAdd (dVar 1) (dC (.int 1)))))) aNil)))))
noncomputable def D__is_known (c : Cl) : En → SR :=
  (sSeq (sIf (tor (tnot (dTest (dIsi (kitD [c.Day, c.Rule, c.Frame]) [c.Day, c.Rule, c.Frame] [(.type "tuple")] (dVar 0)))) (dTest (dBin opNe (dCB fLen (aCons (dVar 0) aNil)) (dC (.int 2))))) (sRet (dC (.bl false))) sNext) (sSeq (sTgt (uTup 2 (usCons (uName 2) (usCons (uName 3) usNil))) (dVar 0)) (sRet (dAnd (dCall 1 1 (D_is_number c) (aCons (dVar 2) aNil)) (dAnd (dBin opLt (dVar 2) (dVar 1)) (dIsi (kitD [c.Day, c.Rule, c.Frame]) [c.Day, c.Rule, c.Frame] [(.type "bool")] (dVar 3)))))))
noncomputable def D__are_known (c : Cl) : En → SR :=
  (sRet (dAnd (dCall 1 1 (D_is_sequence c) (aCons (dVar 0) aNil)) (dCB fAll (aCons (dLcS (dVar 0) [2] (uName 2) tdYes (dCall 2 4 (D__is_known c) (aCons (dVar 2) (aCons (dVar 1) aNil)))) aNil))))
noncomputable def D_wrong_argument_frames (c : Cl) : En → SR :=
  (sSeq (sIf (tnot (dTest (dCall 1 1 (D_is_positive c) (aCons (dVar 0) aNil)))) (sRet (dC (.str "length"))) sNext) (sSeq (sIf (tnot (dTest (dCall 1 1 (D_is_positive c) (aCons (dVar 1) aNil)))) (sRet (dC (.str "shortest"))) sNext) (sSeq (sIf (tnd (dTest (dNotN (dVar 2))) (tnot (dTest (dCall 1 1 (D_is_number c) (aCons (dVar 2) aNil))))) (sRet (dC (.str "most"))) sNext) (sSeq (sIf (tnot (dTest (dIsi (kitD [c.Day, c.Rule, c.Frame]) [c.Day, c.Rule, c.Frame] [(.type "bool")] (dVar 3)))) (sRet (dC (.str "private"))) sNext) (sSeq (sIf (tnot (dTest (dCall 2 3 (D__are_known c) (aCons (dVar 4) (aCons (dVar 0) aNil))))) (sRet (dC (.str "known"))) sNext) (sRet (dC .non)))))))
noncomputable def D_Frame___init__ (c : Cl) : En → SR :=
  (sSeq (sSet 6 (dCall 5 5 (D_wrong_argument_frames c) (aCons (dVar 1) (aCons (dVar 2) (aCons (dVar 3) (aCons (dVar 4) (aCons (dVar 5) aNil))))))) (sSeq (sIf (dTest (dNotN (dVar 6))) sDead sNext) (sSeq (sFldD [c.Frame] 0 "length" (dVar 1)) (sSeq (sFldD [c.Frame] 0 "shortest" (dVar 2)) (sSeq (sFldD [c.Frame] 0 "most" (dVar 3)) (sSeq (sFldD [c.Frame] 0 "private" (dVar 4)) (sFldD [c.Frame] 0 "known" (dCB fTuple (aCons (dVar 5) aNil)))))))))
end DL
set_option Elab.async false
set_option linter.all false
set_option maxRecDepth 100000
set_option maxHeartbeats 4000000
namespace DL
open PySem PySem.Spec PyProof.Rows L2 DD
noncomputable def D_is_let (c : Cl) : En → SR :=
  (sSeq (sIf (tnd (dTest (dBin opEq (dVar 2) (dC (.str "private")))) (tnot (dTest (dFld [c.Rule, c.Frame] "private" (dVar 0))))) (sRet (dC (.bl false))) sNext) (sSeq (sSet 3 (dBin opNe (dVar 2) (dC (.str "free")))) (sRet (dCB fAll (aCons (dLcS (dFld [c.Frame] "known" (dVar 0)) [4, 5] (uTup 2 (usCons (uName 4) (usCons (uName 5) usNil))) (dTest (dBin opEq (dVar 4) (dVar 1))) (dBin opEq (dVar 5) (dVar 3))) aNil)))))
noncomputable def D__begun_head (c : Cl) : En → SR :=
  (sSeq (sIf (dTest (dIsN (dFld [c.Frame] "most" (dVar 0)))) (sRet (dTup (aCons (dVar 2) (aCons (dC (.int 1)) (aCons (dC (.int 0)) aNil))))) sNext) (sSeq (sIf (dTest (dBin opGe (dVar 1) (dFld [c.Frame] "most" (dVar 0)))) (sRet (dC .non)) sNext) (sRet (dTup (aCons (dVar 2) (aCons (dC (.int 1)) (aCons (dBin opAdd (dVar 1) (dC (.int 1))) aNil)))))))
noncomputable def D_is_long_enough (c : Cl) : En → SR :=
  (sSeq (sTgt (uTup 3 (usCons (uName 2) (usCons (uName 3) (usCons (uName 4) usNil)))) (dVar 1)) (sRet (dOr (dBin opEq (dVar 2) (dC (.str ""))) (dBin opEq (dVar 3) (dFld [c.Frame] "shortest" (dVar 0))))))
noncomputable def D_next_head (c : Cl) : En → SR :=
  (sSeq (sTgt (uTup 3 (usCons (uName 3) (usCons (uName 4) (usCons (uName 5) usNil)))) (dVar 1)) (sSeq (sIf (dTest (dBin opEq (dVar 2) (dC (.str "on")))) (sRet (dIfE (dTest (dBin opEq (dVar 3) (dC (.str "")))) (dC .non) (dTup (aCons (dVar 3) (aCons (dCB fMin (aCons (dBin opAdd (dVar 4) (dC (.int 1))) (aCons (dFld [c.Frame] "shortest" (dVar 0)) aNil))) (aCons (dVar 5) aNil)))))) sNext) (sSeq (sIf (tnot (dTest (dCall 2 5 (D_is_long_enough c) (aCons (dVar 0) (aCons (dVar 1) aNil))))) (sRet (dC .non)) sNext) (sSeq (sIf (dTest (dBin opEq (dVar 2) (dC (.str "free")))) (sRet (dTup (aCons (dC (.str "")) (aCons (dC (.int 0)) (aCons (dVar 5) aNil))))) sNext) (sRet (dCall 3 3 (D__begun_head c) (aCons (dVar 0) (aCons (dVar 5) (aCons (dVar 2) aNil)))))))))
noncomputable def D_is_look (c : Cl) : En → SR :=
  (sSeq (sIf (tor (tnot (dTest (dIsi (kitD [c.Day, c.Rule, c.Frame]) [c.Day, c.Rule, c.Frame] [(.type "tuple")] (dVar 0)))) (dTest (dBin opNe (dCB fLen (aCons (dVar 0) aNil)) (dC (.int 2))))) (sRet (dC (.bl false))) sNext) (sSeq (sTgt (uTup 2 (usCons (uName 1) (usCons (uName 2) usNil))) (dVar 0)) (sRet (dAnd (dIsi (kitD [c.Day, c.Rule, c.Frame]) [c.Day, c.Rule, c.Frame] [(.ref c.Rule)] (dVar 1)) (dCall 1 3 (D_is_view c) (aCons (dVar 2) aNil))))))
noncomputable def D_check_looks_b1 (c : Cl) : En → SR :=
  (sIf (tnot (dTest (dCall 1 3 (D_is_look c) (aCons (dVar 2) aNil)))) sDead sNext)
noncomputable def D_check_looks (c : Cl) : En → SR :=
  (sSeq (sIf (tnot (dTest (dCall 1 1 (D_is_sequence c) (aCons (dVar 0) aNil)))) sDead sNext) (sFor (dEnum2 (dVar 0)) (uTup 2 (usCons (uName 1) (usCons (uName 2) usNil))) (D_check_looks_b1 c)))
noncomputable def D_Maker___init__ (c : Cl) : En → SR :=
  (sSeq (sTgt (uTup 2 (usCons (uName 3) (usCons (uName 4) usNil))) (dVar 1)) (sSeq (sFldD [c.Maker] 0 "rule" (dVar 3)) (sSeq (sFldD [c.Maker] 0 "word" (dVar 2)) (sSeq (sFldD [c.Maker] 0 "spans" (dCB fTuple (aCons (dLcS (dVar 4) [6, 7, 8] (uTup 3 (usCons (uName 6) (usCons (uName 7) (usCons (uName 8) usNil)))) (dTest (dBin opEq (dVar 8) (dVar 2))) (dTup (aCons (dVar 6) (aCons (dVar 7) aNil)))) aNil))) (sFldD [c.Maker] 0 "kinds" (dCB fTuple (aCons (dLcS (dC (.tup [(.str "busy"), (.str "private")])) [5] (uName 5) (dTest (dBin opEq (dCall 2 2 (D_word_shown c) (aCons (dVar 3) (aCons (dBin opEq (dVar 5) (dC (.str "private"))) aNil))) (dVar 2))) (dVar 5)) aNil)))))))
noncomputable def D_Maker_takes (c : Cl) : En → SR :=
  (sRet (dBin opIn (dVar 1) (dFld [c.Maker] "kinds" (dVar 0))))
noncomputable def D_Maker_laid (c : Cl) : En → SR :=
  (sSeq (sTgt (uTup 2 (usCons (uName 3) (usCons (uName 4) usNil))) (dVar 1)) (sSeq (sIf (dTest (dIsN (dVar 4))) (sRet (dVar 1)) sNext) (sSeq (sSet 2 (dCall 3 5 (D_span_shown c) (aCons (dFld [c.Maker] "rule" (dVar 0)) (aCons (dBin opIx (dVar 4) (dC (.int 0))) (aCons (dBin opIx (dVar 4) (dC (.int 1))) aNil))))) (sSeq (sIf (dTest (dIsN (dVar 2))) (sRet (dTup (aCons (dVar 3) (aCons (dC .non) aNil)))) sNext) (sSeq (sIf (tnd (dTest (dBin opLt (dVar 3) (dCB fLen (aCons (dFld [c.Maker] "spans" (dVar 0)) aNil)))) (dTest (dBin opEq (dBin opIx (dFld [c.Maker] "spans" (dVar 0)) (dVar 3)) (dVar 2)))) (sRet (dTup (aCons (dBin opAdd (dVar 3) (dC (.int 1))) (aCons (dC .non) aNil)))) sNext) (sRet (dC .non)))))))
noncomputable def D_Maker_started (c : Cl) : En → SR :=
  (sSeq (sMulti [4, 5] (nCons (dCall 2 2 (D_put_down c) (aCons (dVar 2) (aCons (dFld [c.Rule] "step" (dFld [c.Maker] "rule" (dVar 0))) aNil))) (nCons (dCall 2 2 (D_put_up c) (aCons (dBin opAdd (dVar 2) (dC (.int 1))) (aCons (dFld [c.Rule] "step" (dFld [c.Maker] "rule" (dVar 0))) aNil))) aNil))) (sSeq (sTgt (uTup 2 (usCons (uName 6) (usCons (uName 7) usNil))) (dVar 1)) (sSeq (sIf (tnd (dTest (dNotN (dVar 7))) (dTest (dCall 4 4 (D_is_joined c) (aCons (dFld [c.Maker] "rule" (dVar 0)) (aCons (dFld [c.Maker] "word" (dVar 0)) (aCons (dBin opIx (dVar 7) (dC (.int 1))) (aCons (dVar 4) aNil))))))) (sRet (dTup (aCons (dVar 6) (aCons (dTup (aCons (dBin opIx (dVar 7) (dC (.int 0))) (aCons (dVar 5) aNil))) aNil)))) sNext) (sSeq (sSet 3 (dMeth c.Maker "laid" 2 5 (D_Maker_laid c) (dVar 0) (aCons (dVar 1) aNil))) (sRet (dIfE (dTest (dIsN (dVar 3))) (dC .non) (dTup (aCons (dBin opIx (dVar 3) (dC (.int 0))) (aCons (dTup (aCons (dVar 4) (aCons (dVar 5) aNil))) aNil)))))))))
noncomputable def D_Maker_gone_on (c : Cl) : En → SR :=
  (sSeq (sTgt (uTup 2 (usCons (uName 3) (usCons (uName 4) usNil))) (dVar 1)) (sSeq (sIf (tor (dTest (dIsN (dVar 4))) (dTest (dBin opNe (dBin opIx (dVar 4) (dC (.int 1))) (dCall 2 2 (D_put_up c) (aCons (dVar 2) (aCons (dFld [c.Rule] "step" (dFld [c.Maker] "rule" (dVar 0))) aNil)))))) (sRet (dC .non)) sNext) (sRet (dTup (aCons (dVar 3) (aCons (dTup (aCons (dBin opIx (dVar 4) (dC (.int 0))) (aCons (dCall 2 2 (D_put_up c) (aCons (dBin opAdd (dVar 2) (dC (.int 1))) (aCons (dFld [c.Rule] "step" (dFld [c.Maker] "rule" (dVar 0))) aNil))) aNil))) aNil))))))
noncomputable def D_make_makers (c : Cl) : En → SR :=
  (sRet (dLcS (dVar 0) [1] (uName 1) tdYes (dCB fTuple (aCons (dLcS (dC (.tup [(.str "busy"), (.str "private")])) [2] (uName 2) tdYes (dMake c.Maker 3 9 (fun ρ => D_Maker___init__ c ρ) (aCons (dVar 1) (aCons (dVar 2) aNil)))) aNil))))
noncomputable def D_first_standing (c : Cl) : En → SR :=
  (sRet (dTup (aStar (dC (.tup [(.str ""), (.int 0), (.int 0)])) (aCons (dCB fTuple (aCons (dLcS (dVar 0) [1] (uName 1) tdYes (dTup (aCons (dC (.tup [(.int 0), .non])) (aCons (dC (.tup [(.int 0), .non])) aNil)))) aNil)) aNil))))
noncomputable def D__next_tally (c : Cl) : En → SR :=
  (sRet (dIfE (dTest (dBin opEq (dVar 3) (dC (.str "on")))) (dMeth c.Maker "gone_on" 3 5 (D_Maker_gone_on c) (dVar 0) (aCons (dVar 1) (aCons (dVar 2) aNil))) (dMeth c.Maker "started" 3 8 (D_Maker_started c) (dVar 0) (aCons (dVar 1) (aCons (dVar 2) aNil)))))
noncomputable def D__next_pair (c : Cl) : En → SR :=
  (sSeq (sTgt (uTup 2 (usCons (uName 5) (usCons (uName 6) usNil))) (dVar 0)) (sSeq (sTgt (uTup 2 (usCons (uName 7) (usCons (uName 8) usNil))) (dVar 1)) (sSeq (sIf (dTest (dMeth c.Maker "takes" 2 2 (D_Maker_takes c) (dVar 5) (aCons (dVar 4) aNil))) (sSeq (sSet 9 (dCall 4 4 (D__next_tally c) (aCons (dVar 5) (aCons (dVar 7) (aCons (dVar 2) (aCons (dVar 3) aNil)))))) (sRet (dIfE (dTest (dIsN (dVar 9))) (dC .non) (dTup (aCons (dVar 9) (aCons (dVar 8) aNil)))))) sNext) (sSeq (sIf (dTest (dMeth c.Maker "takes" 2 2 (D_Maker_takes c) (dVar 6) (aCons (dVar 4) aNil))) (sSeq (sSet 9 (dCall 4 4 (D__next_tally c) (aCons (dVar 6) (aCons (dVar 8) (aCons (dVar 2) (aCons (dVar 3) aNil)))))) (sRet (dIfE (dTest (dIsN (dVar 9))) (dC .non) (dTup (aCons (dVar 7) (aCons (dVar 9) aNil)))))) sNext) (sRet (dVar 1))))))
noncomputable def D_next_making_b1 (c : Cl) : En → SR :=
  (sSeq (sSet 8 (dCall 5 10 (D__next_pair c) (aCons (dVar 6) (aCons (dVar 7) (aCons (dVar 2) (aCons (dVar 3) (aCons (dVar 4) aNil))))))) (sSeq (sIf (dTest (dIsN (dVar 8))) (sRet (dC .non)) sNext) (sDrop (eMut 5 mAppend (aCons (dVar 8) aNil)))))
noncomputable def D_next_making (c : Cl) : En → SR :=
  (sSeq (sIf (dTest (dBin opEq (dVar 3) (dC (.str "free")))) (sRet (dVar 1)) sNext) (sSeq (sSet 5 (dLst aNil)) (sSeq (sFor (dZipM (aCons (dVar 0) (aCons (dVar 1) aNil))) (uTup 2 (usCons (uName 6) (usCons (uName 7) usNil))) (D_next_making_b1 c)) (sRet (dCB fTuple (aCons (dVar 5) aNil))))))
noncomputable def D_next_standing (c : Cl) : En → SR :=
  (sSeq (sTgt (uTup 4 (usCons (uName 7) (usCons (uName 8) (usCons (uName 9) (usCons (uName 10) usNil))))) (dVar 3)) (sSeq (sSet 5 (dCall 3 6 (D_next_head c) (aCons (dVar 0) (aCons (dTup (aCons (dVar 7) (aCons (dVar 8) (aCons (dVar 9) aNil)))) (aCons (dVar 4) aNil))))) (sSeq (sIf (dTest (dIsN (dVar 5))) (sRet (dC .non)) sNext) (sSeq (sSet 6 (dCall 5 9 (D_next_making c) (aCons (dVar 1) (aCons (dVar 10) (aCons (dVar 2) (aCons (dVar 4) (aCons (dIfE (dTest (dBin opEq (dVar 4) (dC (.str "on")))) (dVar 7) (dVar 4)) aNil))))))) (sRet (dIfE (dTest (dIsN (dVar 6))) (dC .non) (dTup (aStar (dVar 5) (aCons (dVar 6) aNil)))))))))
noncomputable def D_begun (c : Cl) : En → SR :=
  (sSeq (sDrop (dCall 1 3 (D_check_looks c) (aCons (dVar 1) aNil))) (sRet (dCall 1 2 (D_first_standing c) (aCons (dVar 1) aNil))))
noncomputable def D_after (c : Cl) : En → SR :=
  (sSeq (sDrop (dCall 1 3 (D_check_looks c) (aCons (dVar 1) aNil))) (sSeq (sIf (tnot (dTest (dCall 3 6 (D_is_let c) (aCons (dVar 0) (aCons (dVar 2) (aCons (dVar 4) aNil)))))) (sRet (dC .non)) sNext) (sRet (dCall 5 11 (D_next_standing c) (aCons (dVar 0) (aCons (dCall 1 3 (D_make_makers c) (aCons (dVar 1) aNil)) (aCons (dVar 2) (aCons (dVar 3) (aCons (dVar 4) aNil)))))))))
noncomputable def D__law_box (c : Cl) : En → SR :=
  (sSeq (sSet 2 (dBin opAdd (dBin opMul (dC (.int 8087)) (dVar 1)) (dC (.int 61)))) (sSeq (sIf (dTest (dBin opLt (dVar 1) (dCB fLen (aCons (dVar 0) aNil)))) (sSet 2 (dCB fAbs (aCons (dBin opIx (dVar 0) (dVar 1)) aNil))) (sIf (dTest (dBin opGt (dCB fLen (aCons (dVar 0) aNil)) (dC (.int 0)))) (sSet 2 (dBin opAdd (dVar 2) (dBin opMul (dBin opMod (dCB fInt (aCons (dCB fAbs (aCons (dBin opIx (dVar 0) (dBin opMod (dCB fInt (aCons (dVar 1) aNil)) (dCB fLen (aCons (dVar 0) aNil)))) aNil)) aNil)) (dC (.int 2147483629))) (dC (.int 53171))))) sNext)) (sSeq (sSet 3 (dBin opAdd (dBin opMod (dCB fInt (aCons (dBin opAdd (dBin opMul (dBin opMod (dCB fInt (aCons (dVar 2) aNil)) (dC (.int 2147483629))) (dC (.int 48271))) (dBin opMul (dC (.int 36343)) (dVar 1))) aNil)) (dC (.int 2147483629))) (dC (.int 1)))) (sRet (dLst (aCons (dBin opIx (dLst (aCons (dC (.int 0)) (aCons (dVar 2) aNil))) (dCB fInt (aCons (dBin opGe (dVar 2) (dBin opPow (dC (.int 10)) (dC (.int 18)))) aNil))) (aCons (dVar 3) (aCons (dC (.int 0)) aNil))))))))
noncomputable def D__law_take (c : Cl) : En → SR :=
  (sSeq (sIf (dTest (dBin opGt (dBin opIx (dVar 0) (dC (.int 0))) (dC (.int 0)))) (sSeq (sSet 3 (dBin opMod (dCB fInt (aCons (dBin opIx (dVar 0) (dC (.int 0))) aNil)) (dVar 1))) (sSeq (sPut 0 (dBin opFdiv (dBin opIx (dVar 0) (dC (.int 0))) (dVar 1)) (dC (.int 0))) (sRet (dVar 3)))) sNext) (sSeq (sPut 0 (dBin opAdd (dBin opIx (dVar 0) (dC (.int 2))) (dC (.int 1))) (dC (.int 2))) (sSeq (sSet 2 (dBin opMod (dCB fInt (aCons (dBin opMul (dBin opAdd (dBin opIx (dVar 0) (dC (.int 1))) (dBin opMul (dC (.int 100003)) (dBin opIx (dVar 0) (dC (.int 2))))) (dC (.int 40692))) aNil)) (dC (.int 2147483647)))) (sSeq (sPut 0 (dBin opAdd (dBin opMod (dCB fInt (aCons (dBin opAdd (dBin opMul (dVar 2) (dC (.int 48271))) (dC (.int 8111))) aNil)) (dC (.int 2147483629))) (dC (.int 1))) (dC (.int 1))) (sRet (dBin opMod (dCB fInt (aCons (dBin opFdiv (dBin opAdd (dBin opMul (dVar 2) (dC (.int 2147483647))) (dBin opIx (dVar 0) (dC (.int 1)))) (dC (.int 8191))) aNil)) (dVar 1)))))))
noncomputable def D__law_pick (c : Cl) : En → SR :=
  (sRet (dBin opIx (dVar 1) (dLend 2 4 (D__law_take c) 0 (aCons (dCB fLen (aCons (dVar 1) aNil)) aNil))))
noncomputable def D__law_rule_2 (c : Cl) : En → SR :=
  (sSeq (sMulti [4, 5] (nCons (dLend 2 2 (D__law_pick c) 0 (aCons (dLst (aCons (dC (.int 1)) (aCons (dC (.int 1)) (aCons (dC (.int 2)) (aCons (dC (.int 2)) (aCons (dC (.int 3)) (aCons (dC (.int 4)) (aCons (dC (.int 8)) aNil)))))))) aNil)) (nCons (dLend 2 2 (D__law_pick c) 0 (aCons (dLst (aCons (dC (.int 0)) (aCons (dC (.int 0)) (aCons (dC (.int 1)) (aCons (dC (.int 2)) (aCons (dC (.int 3)) (aCons (dC (.int 5)) (aCons (dC (.int 16)) aNil)))))))) aNil)) aNil))) (sSeq (sSet 2 (dC .non)) (sSeq (sIf (dTest (dBin opEq (dLend 2 4 (D__law_take c) 0 (aCons (dC (.int 4)) aNil)) (dC (.int 0)))) (sSeq (sSet 6 (dLend 2 4 (D__law_take c) 0 (aCons (dVar 1) aNil))) (sSet 2 (dTup (aCons (dVar 6) (aCons (dBin opAdd (dBin opAdd (dVar 6) (dC (.int 1))) (dLend 2 4 (D__law_take c) 0 (aCons (dVar 1) aNil))) aNil))))) sNext) (sSeq (sSet 3 (dLend 2 2 (D__law_pick c) 0 (aCons (dLst (aCons (dC (.int 0)) (aCons (dC (.int 0)) (aCons (dC (.int 0)) (aCons (dC (.int 2)) (aCons (dC (.int 3)) (aCons (dC (.int 4)) (aCons (dC (.int 16)) aNil)))))))) aNil))) (sRet (dTup (aCons (dVar 4) (aCons (dVar 5) (aCons (dVar 3) (aCons (dLend 2 2 (D__law_pick c) 0 (aCons (dLst (aCons (dC (.str "busy")) (aCons (dC (.str "none")) (aCons (dC (.str "apart")) (aCons (dC (.str "one")) aNil))))) aNil)) (aCons (dVar 2) aNil)))))))))))
noncomputable def D__law_ground_b1 (c : Cl) : En → SR :=
  (sDrop (eMut 3 mAppend (aCons (dTup (aCons (dLend 2 4 (D__law_take c) 0 (aCons (dVar 6) aNil)) (aCons (dBin opEq (dLend 2 4 (D__law_take c) 0 (aCons (dC (.int 2)) aNil)) (dC (.int 0))) aNil))) aNil)))
noncomputable def D__law_ground (c : Cl) : En → SR :=
  (sSeq (sMulti [6, 7] (nCons (dBin opAdd (dVar 1) (dLend 2 4 (D__law_take c) 0 (aCons (dBin opAdd (dBin opSub (dVar 2) (dVar 1)) (dC (.int 1))) aNil))) (nCons (dLend 2 2 (D__law_pick c) 0 (aCons (dLst (aCons (dC (.int 1)) (aCons (dC (.int 1)) (aCons (dC (.int 1)) (aCons (dC (.int 2)) (aCons (dC (.int 2)) (aCons (dC (.int 3)) (aCons (dC (.int 6)) aNil)))))))) aNil)) aNil))) (sSeq (sSet 3 (dLst aNil)) (sSeq (sFor (dRng1 (dLend 2 2 (D__law_pick c) 0 (aCons (dLst (aCons (dC (.int 0)) (aCons (dC (.int 0)) (aCons (dC (.int 0)) (aCons (dC (.int 1)) (aCons (dC (.int 2)) aNil)))))) aNil))) (uName 4) (D__law_ground_b1 c)) (sSeq (sSet 5 (dLend 2 2 (D__law_pick c) 0 (aCons (dLst (aCons (dC .non) (aCons (dC .non) (aCons (dC .non) (aCons (dC .non) (aCons (dC (.int 0)) (aCons (dC (.int 1)) (aCons (dC (.int 2)) (aCons (dC (.int 3)) aNil))))))))) aNil))) (sSeq (sIf (dTest (dBin opGt (dLend 2 4 (D__law_take c) 0 (aCons (dC (.int 3)) aNil)) (dC (.int 0)))) (sRet (dTup (aCons (dVar 6) (aCons (dVar 7) (aCons (dVar 5) (aCons (dC (.bl false)) (aCons (dCB fTuple (aCons (dVar 3) aNil)) aNil))))))) sNext) (sSeq (sSet 6 (dCB fMin (aCons (dC (.int 8)) (aCons (dCB fInt (aCons (dVar 6) aNil)) aNil)))) (sRet (dTup (aCons (dVar 6) (aCons (dVar 7) (aCons (dVar 5) (aCons (dC (.bl true)) (aCons (dCB fTuple (aCons (dLcS (dVar 3) [8] (uName 8) (dTest (dBin opLt (dBin opIx (dVar 8) (dC (.int 0))) (dVar 6))) (dVar 8)) aNil)) aNil)))))))))))))
noncomputable def D__law_frame_of (c : Cl) : En → SR :=
  (sRet (dMake c.Frame 6 7 (fun ρ => D_Frame___init__ c (fillD 6 [] ρ)) (aCons (dBin opIx (dVar 0) (dC (.int 0))) (aCons (dBin opIx (dVar 0) (dC (.int 1))) (aCons (dBin opIx (dVar 0) (dC (.int 2))) (aCons (dBin opIx (dVar 0) (dC (.int 3))) (aCons (dBin opIx (dVar 0) (dC (.int 4))) aNil)))))))
noncomputable def D__law_meetings_b1 (c : Cl) : En → SR :=
  (sSeq (sSet 5 (dBin opAdd (dVar 5) (dLend 2 2 (D__law_pick c) 0 (aCons (dLst (aCons (dC (.int 0)) (aCons (dC (.int 0)) (aCons (dC (.int 1)) (aCons (dC (.int 2)) (aCons (dC (.int 3)) aNil)))))) aNil)))) (sSeq (sSet 6 (dBin opAdd (dBin opAdd (dVar 5) (dVar 3)) (dLend 2 2 (D__law_pick c) 0 (aCons (dLst (aCons (dC (.int 0)) (aCons (dC (.int 0)) (aCons (dC (.int 1)) (aCons (dC (.int 2)) (aCons (dC (.int 4)) aNil)))))) aNil)))) (sSeq (sIf (dTest (dBin opLe (dVar 6) (dVar 2))) (sDrop (eMut 4 mAppend (aCons (dTup (aCons (dVar 5) (aCons (dVar 6) (aCons (dAnd (dBin opIx (dVar 1) (dC (.int 3))) (dBin opEq (dLend 2 4 (D__law_take c) 0 (aCons (dC (.int 3)) aNil)) (dC (.int 0)))) aNil)))) aNil))) sNext) (sSet 5 (dVar 6)))))
noncomputable def D__law_meetings (c : Cl) : En → SR :=
  (sSeq (sMulti [2, 3, 4, 5] (nCons (dBin opIx (dVar 1) (dC (.int 0))) (nCons (dBin opIx (dVar 1) (dC (.int 1))) (nCons (dLst aNil) (nCons (dC (.int 0)) aNil))))) (sSeq (sWhile 100000 (dTest (dBin opLe (dBin opAdd (dVar 5) (dVar 3)) (dVar 2))) (D__law_meetings_b1 c)) (sRet (dVar 4))))
noncomputable def D__law_taken_b1 (c : Cl) : En → SR :=
  (sDrop (eMut 1 mExtend (aCons (dLstRg (g2 (dVar 2) (dVar 3))) aNil)))
noncomputable def D__law_taken (c : Cl) : En → SR :=
  (sSeq (sSet 1 (dLst aNil)) (sSeq (sForS (dVar 0) (uTup 3 (usCons (uName 2) (usCons (uName 3) (usCons (uName 4) usNil)))) (D__law_taken_b1 c)) (sRet (dVar 1))))
noncomputable def D__law_lets_b1 (c : Cl) : En → SR :=
  (sIf (tor (dTest (dBin opLt (dBin opSub (dVar 4) (dVar 3)) (dBin opIx (dVar 0) (dC (.int 1))))) (tnd (dTest (dVar 5)) (tnot (dTest (dBin opIx (dVar 0) (dC (.int 3))))))) (sRet (dC (.bl false))) sNext)
noncomputable def D__law_lets (c : Cl) : En → SR :=
  (sSeq (sIf (tnd (dTest (dNotN (dBin opIx (dVar 0) (dC (.int 2))))) (dTest (dBin opGt (dCB fLen (aCons (dVar 1) aNil)) (dBin opIx (dVar 0) (dC (.int 2)))))) (sRet (dC (.bl false))) sNext) (sSeq (sForS (dVar 1) (uTup 3 (usCons (uName 3) (usCons (uName 4) (usCons (uName 5) usNil)))) (D__law_lets_b1 c)) (sSeq (sSet 2 (dCall 1 5 (D__law_taken c) (aCons (dVar 1) aNil))) (sRet (dBin opEq (dLcS (dBin opIx (dVar 0) (dC (.int 4))) [6, 7] (uTup 2 (usCons (uName 6) (usCons (uName 7) usNil))) (dTest (dBin opNe (dBin opIn (dVar 6) (dVar 2)) (dVar 7))) (dC (.int 1))) (dLst aNil))))))
noncomputable def D__law_drawn_b1 (c : Cl) : En → SR :=
  (sSeq (sSet 3 (dLend 2 7 (D__law_meetings c) 0 (aCons (dVar 1) aNil))) (sSeq (sSet 3 (dIfE (dTest (dIsN (dBin opIx (dVar 1) (dC (.int 2))))) (dVar 3) (dSl (dVar 3) oNone (oSome (dBin opIx (dVar 1) (dC (.int 2))))))) (sIf (dTest (dCall 2 8 (D__law_lets c) (aCons (dVar 1) (aCons (dVar 3) aNil)))) (sRet (dVar 3)) sNext)))
noncomputable def D__law_drawn (c : Cl) : En → SR :=
  (sSeq (sFor (dRng1 (dC (.int 12))) (uName 2) (D__law_drawn_b1 c)) (sRet (dC .non)))
noncomputable def D__law_sort (c : Cl) : En → SR :=
  (sSeq (sIf (tor (tnot (dTest (dVar 1))) (dTest (dBin opEq (dBin opIx (dVar 0) (dC (.int 3))) (dC (.str "busy"))))) (sRet (dC (.str "busy"))) sNext) (sRet (dIfE (dTest (dBin opEq (dBin opIx (dVar 0) (dC (.int 3))) (dC (.str "none")))) (dC .non) (dC (.str "private")))))
noncomputable def D__law_painted_2_b1 (c : Cl) : En → SR :=
  (sPut 5 (dC (.bl true)) (dVar 12))
noncomputable def D__law_painted_2_b2 (c : Cl) : En → SR :=
  (sIf (dTest (dBin opEq (dCall 2 2 (D__law_sort c) (aCons (dVar 0) (aCons (dVar 9) aNil))) (dVar 2))) (sSeq (sMulti [13, 14] (nCons (dBin opSub (dVar 7) (dBin opMod (dCB fInt (aCons (dVar 7) aNil)) (dVar 3))) (nCons (dBin opAdd (dVar 8) (dBin opMod (dBin opSub (dC (.int 0)) (dVar 8)) (dVar 3))) aNil))) (sSeq (sSet 10 (dAnd (dBin opEq (dVar 2) (dC (.str "private"))) (dBin opEq (dBin opIx (dVar 0) (dC (.int 3))) (dC (.str "one"))))) (sSeq (sSet 11 (dVar 13)) (sSeq (sIf (tnd (dTest (dNotN (dVar 6))) (tor (dTest (dBin opLe (dBin opSub (dVar 13) (dVar 6)) (dVar 4))) (dTest (dVar 10)))) (sSet 11 (dVar 6)) sNext) (sSeq (sFor (dRng2 (dCB fMin (aCons (dCB fInt (aCons (dVar 11) aNil)) (aCons (dCB fInt (aCons (dVar 13) aNil)) aNil))) (dVar 14)) (uName 12) (D__law_painted_2_b1 c)) (sSet 6 (dVar 14))))))) sNext)
noncomputable def D__law_painted_2 (c : Cl) : En → SR :=
  (sSeq (sMulti [3, 4] (nCons (dBin opIx (dVar 0) (dC (.int 0))) (nCons (dBin opIx (dVar 0) (dC (.int 1))) aNil))) (sSeq (sMulti [5, 6] (nCons (dBin opRep (dLst (aCons (dC (.bl false)) aNil)) (dC (.int 80))) (nCons (dC .non) aNil))) (sSeq (sForS (dVar 1) (uTup 3 (usCons (uName 7) (usCons (uName 8) (usCons (uName 9) usNil)))) (D__law_painted_2_b2 c)) (sRet (dVar 5)))))
noncomputable def D__law_blocks_b1 (c : Cl) : En → SR :=
  (sSeq (sIf (tnd (dTest (dVar 7)) (dTest (dIsN (dVar 5)))) (sSet 5 (dVar 6)) sNext) (sIf (tnd (tnot (dTest (dVar 7))) (dTest (dNotN (dVar 5)))) (sSeq (sMulti [8, 9] (nCons (dVar 5) (nCons (dVar 6) aNil))) (sSeq (sIf (dTest (dNotN (dBin opIx (dVar 0) (dC (.int 4))))) (sMulti [8, 9] (nCons (dCB fMax (aCons (dCB fInt (aCons (dVar 5) aNil)) (aCons (dBin opIx (dBin opIx (dVar 0) (dC (.int 4))) (dC (.int 0))) aNil))) (nCons (dCB fMin (aCons (dCB fInt (aCons (dVar 6) aNil)) (aCons (dBin opIx (dBin opIx (dVar 0) (dC (.int 4))) (dC (.int 1))) aNil))) aNil))) sNext) (sSeq (sIf (tnd (dTest (dBin opGe (dBin opSub (dVar 6) (dVar 5)) (dBin opIx (dVar 0) (dC (.int 2))))) (dTest (dBin opLt (dVar 8) (dVar 9)))) (sDrop (eMut 4 mAppend (aCons (dTup (aCons (dVar 8) (aCons (dVar 9) (aCons (dVar 2) aNil)))) aNil))) sNext) (sSet 5 (dC .non))))) sNext))
noncomputable def D__law_blocks (c : Cl) : En → SR :=
  (sSeq (sMulti [3, 4, 5] (nCons (dCall 3 15 (D__law_painted_2 c) (aCons (dVar 0) (aCons (dVar 1) (aCons (dVar 2) aNil)))) (nCons (dLst aNil) (nCons (dC .non) aNil)))) (sSeq (sFor (dEnum2 (dVar 3)) (uTup 2 (usCons (uName 6) (usCons (uName 7) usNil))) (D__law_blocks_b1 c)) (sRet (dVar 4))))
noncomputable def D__law_show_2 (c : Cl) : En → SR :=
  (sRet (dCB fTuple (aCons (dCB fSorted (aCons (dBin opAdd (dCall 3 10 (D__law_blocks c) (aCons (dVar 0) (aCons (dVar 1) (aCons (dC (.str "busy")) aNil)))) (dCall 3 10 (D__law_blocks c) (aCons (dVar 0) (aCons (dVar 1) (aCons (dC (.str "private")) aNil))))) aNil)) aNil)))
noncomputable def D__law_looks_b1 (c : Cl) : En → SR :=
  (sSeq (sSet 6 (dLend 2 7 (D__law_rule_2 c) 0 (aCons (dBin opIx (dVar 1) (dC (.int 0))) aNil))) (sSeq (sSet 7 (dIfE (dTest (dBin opEq (dLend 2 4 (D__law_take c) 0 (aCons (dC (.int 6)) aNil)) (dC (.int 0)))) (dLend 2 4 (D__law_drawn c) 0 (aCons (dVar 1) aNil)) (dC .non))) (sDrop (eMut 5 mAppend (aCons (dTup (aCons (dVar 6) (aCons (dCall 2 2 (D__law_show_2 c) (aCons (dVar 6) (aCons (dIfE (dTest (dIsN (dVar 7))) (dVar 3) (dVar 7)) aNil))) aNil))) aNil)))))
noncomputable def D__law_looks (c : Cl) : En → SR :=
  (sSeq (sSet 3 (dLend 2 4 (D__law_drawn c) 0 (aCons (dVar 1) aNil))) (sSeq (sMulti [3, 5] (nCons (dIfE (dTest (dIsN (dVar 3))) (dLst aNil) (dVar 3)) (nCons (dLst aNil) aNil))) (sSeq (sFor (dRng1 (dVar 2)) (uName 4) (D__law_looks_b1 c)) (sRet (dVar 5)))))
noncomputable def D__law_looks_of (c : Cl) : En → SR :=
  (sRet (dLcS (dVar 0) [1, 2] (uTup 2 (usCons (uName 1) (usCons (uName 2) usNil))) tdYes (dTup (aCons (dCall 1 1 (D__law_made_rule c) (aCons (dVar 1) aNil)) (aCons (dVar 2) aNil)))))
noncomputable def D__law_runs_2_b1 (c : Cl) : En → SR :=
  (sSeq (sIf (tnd (dTest (dVar 7)) (dTest (dIsN (dVar 5)))) (sSet 5 (dVar 6)) sNext) (sIf (tnd (tnot (dTest (dVar 7))) (dTest (dNotN (dVar 5)))) (sSeq (sDrop (eMut 4 mAppend (aCons (dTup (aCons (dVar 5) (aCons (dVar 6) aNil))) aNil))) (sSet 5 (dC .non))) sNext))
noncomputable def D__law_runs_2 (c : Cl) : En → SR :=
  (sSeq (sMulti [3, 4, 5] (nCons (dCall 3 15 (D__law_painted_2 c) (aCons (dVar 0) (aCons (dVar 1) (aCons (dVar 2) aNil)))) (nCons (dLst aNil) (nCons (dC .non) aNil)))) (sSeq (sFor (dEnum2 (dVar 3)) (uTup 2 (usCons (uName 6) (usCons (uName 7) usNil))) (D__law_runs_2_b1 c)) (sRet (dVar 4))))
noncomputable def D__law_read_b1 (c : Cl) : En → SR :=
  (sIf (dTest (dBin opNe (dVar 5) (dC (.str "on")))) (sSeq (sDrop (eMut 1 mExtend (aCons (dIfE (dTest (dNotN (dVar 2))) (dLst (aCons (dTup (aCons (dVar 2) (aCons (dVar 4) (aCons (dBin opEq (dVar 3) (dC (.str "private"))) aNil)))) aNil)) (dLst aNil)) aNil))) (sTgt (uTup 2 (usCons (uName 2) (usCons (uName 3) usNil))) (dIfE (dTest (dBin opEq (dVar 5) (dC (.str "free")))) (dTup (aCons (dC .non) (aCons (dC (.str "")) aNil))) (dTup (aCons (dVar 4) (aCons (dVar 5) aNil)))))) sNext)
noncomputable def D__law_read (c : Cl) : En → SR :=
  (sSeq (sMulti [1, 2, 3] (nCons (dLst aNil) (nCons (dC .non) (nCons (dC (.str "")) aNil)))) (sSeq (sFor (dEnum2 (dBin opAdd (dVar 0) (dLst (aCons (dC (.str "free")) aNil)))) (uTup 2 (usCons (uName 4) (usCons (uName 5) usNil))) (D__law_read_b1 c)) (sRet (dVar 1))))
noncomputable def D__law_is_row_b1 (c : Cl) : En → SR :=
  (sIf (tnd (dTest (dBin opEq (dVar 6) (dVar 4))) (dTest (dBin opEq (dVar 7) (dBin opEq (dVar 5) (dC (.str "free")))))) (sRet (dC (.bl false))) sNext)
noncomputable def D__law_is_row_b2 (c : Cl) : En → SR :=
  (sSeq (sForS (dBin opIx (dVar 0) (dC (.int 4))) (uTup 2 (usCons (uName 6) (usCons (uName 7) usNil))) (D__law_is_row_b1 c)) (sSeq (sIf (tor (tnd (dTest (dBin opEq (dVar 5) (dC (.str "on")))) (dTest (dBin opEq (dVar 2) (dC (.int 0))))) (tnd (dTest (dBin opNe (dVar 5) (dC (.str "on")))) (dTest (dChain opLt opLt (dC (.int 0)) (dVar 2) (dBin opIx (dVar 0) (dC (.int 1))))))) (sRet (dC (.bl false))) sNext) (sSeq (sIf (tnd (dTest (dBin opEq (dVar 5) (dC (.str "private")))) (tnot (dTest (dBin opIx (dVar 0) (dC (.int 3)))))) (sRet (dC (.bl false))) sNext) (sSeq (sSet 3 (dBin opAdd (dVar 3) (dCB fInt (aCons (dBin opIn (dVar 5) (dTup (aCons (dC (.str "busy")) (aCons (dC (.str "private")) aNil)))) aNil)))) (sSet 2 (dIfE (dTest (dBin opEq (dVar 5) (dC (.str "free")))) (dC (.int 0)) (dIfE (dTest (dBin opEq (dVar 5) (dC (.str "on")))) (dBin opAdd (dVar 2) (dC (.int 1))) (dC (.int 1)))))))))
noncomputable def D__law_is_row (c : Cl) : En → SR :=
  (sSeq (sMulti [2, 3] (nCons (dC (.int 0)) (nCons (dC (.int 0)) aNil))) (sSeq (sFor (dEnum2 (dVar 1)) (uTup 2 (usCons (uName 4) (usCons (uName 5) usNil))) (D__law_is_row_b2 c)) (sRet (dOr (dIsN (dBin opIx (dVar 0) (dC (.int 2)))) (dBin opLe (dVar 3) (dBin opIx (dVar 0) (dC (.int 2))))))))
noncomputable def D__law_part_b1 (c : Cl) : En → SR :=
  (sIf (dTest (dBin opGe (dBin opSub (dVar 7) (dVar 6)) (dBin opIx (dVar 0) (dC (.int 2))))) (sSeq (sSet 8 (dTup (aCons (dVar 6) (aCons (dVar 7) aNil)))) (sSeq (sIf (dTest (dNotN (dBin opIx (dVar 0) (dC (.int 4))))) (sSet 8 (dTup (aCons (dCB fMax (aCons (dCB fInt (aCons (dVar 6) aNil)) (aCons (dBin opIx (dBin opIx (dVar 0) (dC (.int 4))) (dC (.int 0))) aNil))) (aCons (dCB fMin (aCons (dCB fInt (aCons (dVar 7) aNil)) (aCons (dBin opIx (dBin opIx (dVar 0) (dC (.int 4))) (dC (.int 1))) aNil))) aNil)))) sNext) (sDrop (eMut 5 mExtend (aCons (dIfE (dTest (dBin opLt (dBin opIx (dVar 8) (dC (.int 0))) (dBin opIx (dVar 8) (dC (.int 1))))) (dLst (aCons (dVar 8) aNil)) (dLst aNil)) aNil))))) sNext)
noncomputable def D__law_part (c : Cl) : En → SR :=
  (sSeq (sMulti [4, 5] (nCons (dCall 3 8 (D__law_runs_2 c) (aCons (dVar 0) (aCons (dVar 2) (aCons (dVar 3) aNil)))) (nCons (dLst aNil) aNil))) (sSeq (sForS (dSl (dVar 4) oNone (oSome (dUn opNeg (dC (.int 1))))) (uTup 2 (usCons (uName 6) (usCons (uName 7) usNil))) (D__law_part_b1 c)) (sSeq (sIf (dTest (dBin opNe (dVar 5) (dSl (dLcS (dVar 1) [9] (uName 9) (dTest (dBin opEq (dBin opIx (dVar 9) (dC (.int 2))) (dVar 3))) (dSl (dVar 9) oNone (oSome (dC (.int 2))))) oNone (oSome (dCB fLen (aCons (dVar 5) aNil)))))) (sRet (dC .non)) sNext) (sRet (dTup (aCons (dCB fLen (aCons (dVar 5) aNil)) (aCons (dIfE (dTest (dBin opNe (dVar 4) (dLst aNil))) (dBin opIx (dVar 4) (dUn opNeg (dC (.int 1)))) (dC .non)) aNil)))))))
noncomputable def D__law_standing_b1 (c : Cl) : En → SR :=
  (sSeq (sSet 11 (dCB fTuple (aCons (dLcS (dTup (aCons (dC (.str "busy")) (aCons (dC (.str "private")) aNil))) [12] (uName 12) tdYes (dCall 4 10 (D__law_part c) (aCons (dVar 9) (aCons (dVar 10) (aCons (dVar 7) (aCons (dVar 12) aNil)))))) aNil))) (sSeq (sIf (dTest (dBin opIn (dC .non) (dVar 11))) (sRet (dC .non)) sNext) (sDrop (eMut 8 mAppend (aCons (dVar 11) aNil)))))
noncomputable def D__law_standing (c : Cl) : En → SR :=
  (sSeq (sIf (tnot (dTest (dCall 2 8 (D__law_is_row c) (aCons (dVar 0) (aCons (dVar 2) aNil))))) (sRet (dC .non)) sNext) (sSeq (sMulti [7, 8] (nCons (dCall 1 6 (D__law_read c) (aCons (dVar 2) aNil)) (nCons (dLst aNil) aNil))) (sSeq (sForS (dVar 1) (uTup 2 (usCons (uName 9) (usCons (uName 10) usNil))) (D__law_standing_b1 c)) (sSeq (sSet 3 (dAnd (dBin opNe (dVar 2) (dLst aNil)) (dBin opNe (dBin opIx (dVar 2) (dUn opNeg (dC (.int 1)))) (dC (.str "free"))))) (sSeq (sSet 4 (dIfE (tnd (dTest (dVar 3)) (dTest (dBin opIx (dBin opIx (dVar 7) (dUn opNeg (dC (.int 1)))) (dC (.int 2))))) (dC (.str "private")) (dC (.str "busy")))) (sSeq (sSet 5 (dIfE (dTest (dVar 3)) (dCB fMin (aCons (dCB fInt (aCons (dBin opIx (dVar 0) (dC (.int 1))) aNil)) (aCons (dBin opSub (dBin opIx (dBin opIx (dVar 7) (dUn opNeg (dC (.int 1)))) (dC (.int 1))) (dBin opIx (dBin opIx (dVar 7) (dUn opNeg (dC (.int 1)))) (dC (.int 0)))) aNil))) (dC (.int 0)))) (sSeq (sSet 6 (dIfE (dTest (dIsN (dBin opIx (dVar 0) (dC (.int 2))))) (dC (.int 0)) (dCB fLen (aCons (dVar 7) aNil)))) (sRet (dTup (aCons (dIfE (dTest (dVar 3)) (dVar 4) (dC (.str ""))) (aCons (dVar 5) (aCons (dVar 6) (aCons (dCB fTuple (aCons (dVar 8) aNil)) aNil)))))))))))))
end DL
set_option Elab.async false
set_option linter.all false
set_option maxRecDepth 100000
set_option maxHeartbeats 4000000
namespace DL
open PySem PySem.Spec PyProof.Rows L2 DD
noncomputable def D_law_b1 (c : Cl) : En → SR :=
  (sSeq (sSet 13 (dCall 3 13 (D__law_standing c) (aCons (dVar 4) (aCons (dVar 5) (aCons (dBin opAdd (dVar 10) (dLst (aCons (dVar 12) aNil))) aNil))))) (sSeq (sSet 14 (dCall 5 5 (D_after c) (aCons (dVar 8) (aCons (dVar 9) (aCons (dVar 7) (aCons (dVar 6) (aCons (dVar 12) aNil))))))) (sSeq (sSet 15 (dCall 5 5 (D_after c) (aCons (dVar 8) (aCons (dCB fTuple (aCons (dVar 9) aNil)) (aCons (dVar 7) (aCons (dVar 6) (aCons (dVar 12) aNil))))))) (sSeq (sIf (tor (dTest (dBin opNe (dCB fRepr3 (aCons (dVar 14) aNil)) (dCB fRepr3 (aCons (dVar 13) aNil)))) (dTest (dBin opNe (dCB fRepr3 (aCons (dVar 15) aNil)) (dCB fRepr3 (aCons (dVar 13) aNil))))) (sRet (dC (.bl false))) sNext) (sDrop (eMut 11 mExtend (aCons (dIfE (dTest (dNotN (dVar 13))) (dLst (aCons (dTup (aCons (dVar 12) (aCons (dVar 14) aNil))) aNil)) (dLst aNil)) aNil)))))))
noncomputable def D_law_b2 (c : Cl) : En → SR :=
  (sSeq (sSet 11 (dLst aNil)) (sSeq (sForS (dTup (aCons (dC (.str "free")) (aCons (dC (.str "busy")) (aCons (dC (.str "private")) (aCons (dC (.str "on")) aNil))))) (uName 12) (D_law_b1 c)) (sSeq (sIf (dTest (dBin opEq (dVar 11) (dLst aNil))) sBreak sNext) (sSeq (sTgt (uTup 2 (usCons (uName 12) (usCons (uName 6) usNil))) (dLend 2 2 (D__law_pick c) 2 (aCons (dBin opAdd (dVar 11) (dSl (dVar 11) oNone (oSome (dC (.int 1))))) aNil))) (sSet 10 (dBin opAdd (dVar 10) (dLst (aCons (dVar 12) aNil))))))))
noncomputable def D_law_b3 (c : Cl) : En → SR :=
  (sSeq (sSet 4 (dLend 3 9 (D__law_ground c) 2 (aCons (dC (.int 4)) (aCons (dC (.int 12)) aNil)))) (sSeq (sSet 5 (dLend 3 8 (D__law_looks c) 2 (aCons (dVar 4) (aCons (dLend 2 4 (D__law_take c) 2 (aCons (dC (.int 3)) aNil)) aNil)))) (sSeq (sMulti [8, 9, 10] (nCons (dCall 1 1 (D__law_frame_of c) (aCons (dVar 4) aNil)) (nCons (dCall 1 3 (D__law_looks_of c) (aCons (dVar 5) aNil)) (nCons (dLst aNil) aNil)))) (sSeq (sSet 6 (dCall 2 2 (D_begun c) (aCons (dVar 8) (aCons (dVar 9) aNil)))) (sSeq (sIf (dTest (dBin opNe (dCB fRepr3 (aCons (dVar 6) aNil)) (dCB fRepr3 (aCons (dCall 3 13 (D__law_standing c) (aCons (dVar 4) (aCons (dVar 5) (aCons (dLst aNil) aNil)))) aNil)))) (sRet (dC (.bl false))) sNext) (sFor (dRng1 (dBin opIx (dVar 4) (dC (.int 0)))) (uName 7) (D_law_b2 c)))))))
noncomputable def D_law_b4 (c : Cl) : En → SR :=
  (sSeq (sSet 2 (dCall 2 4 (D__law_box c) (aCons (dVar 0) (aCons (dVar 1) aNil)))) (sFor (dRng1 (dC (.int 4))) (uName 3) (D_law_b3 c)))
noncomputable def D_law (c : Cl) : En → SR :=
  (sSeq (sFor (dRng1 (dCB fMax (aCons (dC (.int 1)) (aCons (dCB fMin (aCons (dC (.int 3)) (aCons (dCB fLen (aCons (dVar 0) aNil)) aNil))) aNil)))) (uName 1) (D_law_b4 c)) (sRet (dC (.bl true))))
end DL
set_option Elab.async false
set_option linter.all false
set_option maxRecDepth 100000
set_option maxHeartbeats 4000000
namespace DD
open PySem PySem.Spec PyProof.Rows L2 StX ClX DL
section
variable {P : Program} {w : World} {K : PySem.W.Frag} {mg : Str → Option Value} {base : Heap} {d : Ad}
theorem ok__law_box (T : Txt K mg d) : FnR P w K mg base CX0 1 d.f__law_box (spD0 K 2 4 (D__law_box (cl d))) :=
  mkDz T.F__law_box sc__law_box (by decide) (fun _ _ _ _ _ _ us hl => match us, hl with | [_, _], _ => rfl) (fun cdv A outer s H E hr => by
    have hu := hr.units
    have hu5 := room5 hr
    exact ⟨_, (pss_cons (ps_set (i := 2) sc__law_box.nd rfl (by first | exact Or.inl rfl | exact Or.inr rfl) (pe_op (op_add4 (K := K)) (pe_op op_mul pe_int (pv 1)) pe_int)) (pss_cons (ps_if (pt_cmpR (op_lt2 (K := K) hu) (pv 1) (pe_callB (call_len2 (K := K)) (by rfl) T.b_len PySem.boot_len (pa_cons (pv 0) pa_nil)) (nomark _)) (pss_one (ps_set (i := 2) sc__law_box.nd rfl (by first | exact Or.inl rfl | exact Or.inr rfl) (pe_callB call_abs (by rfl) T.b_abs (by decide +kernel) (pa_cons (pe_ix (ix_3 (K := K)) (pv 0) (pv 1) (fun _ _ => rfl)) pa_nil)))) (pss_one (ps_if (pt_cmpR op_gt (pe_callB (call_len2 (K := K)) (by rfl) T.b_len PySem.boot_len (pa_cons (pv 0) pa_nil)) pe_int (nomark _)) (pss_one (ps_set (i := 2) sc__law_box.nd rfl (by first | exact Or.inl rfl | exact Or.inr rfl) (pe_op (op_add4 (K := K)) (pv 2) (pe_op op_mul (pe_op op_mod (pe_callTy call_int2 rfl T.b_int (by decide +kernel) (pa_cons (pe_callB call_abs (by rfl) T.b_abs (by decide +kernel) (pa_cons (pe_ix (ix_3 (K := K)) (pv 0) (pe_op op_mod (pe_callTy call_int2 rfl T.b_int (by decide +kernel) (pa_cons (pv 1) pa_nil)) (pe_callB (call_len2 (K := K)) (by rfl) T.b_len PySem.boot_len (pa_cons (pv 0) pa_nil))) (fun _ _ => rfl)) pa_nil)) pa_nil)) pe_int) pe_int)))) pss_nil))) (pss_cons (ps_set (i := 3) sc__law_box.nd rfl (by first | exact Or.inl rfl | exact Or.inr rfl) (pe_op (op_add4 (K := K)) (pe_op op_mod (pe_callTy call_int2 rfl T.b_int (by decide +kernel) (pa_cons (pe_op (op_add4 (K := K)) (pe_op op_mul (pe_op op_mod (pe_callTy call_int2 rfl T.b_int (by decide +kernel) (pa_cons (pv 2) pa_nil)) pe_int) pe_int) (pe_op op_mul pe_int (pv 1))) pa_nil)) pe_int) pe_int)) (pss_one (ps_ret (pe_lst (pa_cons (pe_ix (ix_3 (K := K)) (pe_lst (pa_cons pe_int (pa_cons (pv 2) pa_nil))) (pe_callTy call_int2 rfl T.b_int (by decide +kernel) (pa_cons (pe_cmpR op_ge (pv 2) (pe_op op_pow pe_int pe_int) (nomark _)) pa_nil)) (fun _ _ => rfl)) (pa_cons (pv 3) (pa_cons pe_int pa_nil))))))))), (L_seq (L_set (L_bin S_add4 (L_bin S_mul L_int (L_var (i := 1))) L_int)) (L_seq (L_if (L_test (L_bin S_lt2 (L_var (i := 1)) (L_cb C_len (A_cons (L_var (i := 0)) A_nil)))) (L_set (L_cb C_abs (A_cons (L_bin S_ix (L_var (i := 0)) (L_var (i := 1))) A_nil))) (L_if (L_test (L_bin S_gt (L_cb C_len (A_cons (L_var (i := 0)) A_nil)) L_int)) (L_set (L_bin S_add4 (L_var (i := 2)) (L_bin S_mul (L_bin S_mod (L_cb C_int (A_cons (L_cb C_abs (A_cons (L_bin S_ix (L_var (i := 0)) (L_bin S_mod (L_cb C_int (A_cons (L_var (i := 1)) A_nil)) (L_cb C_len (A_cons (L_var (i := 0)) A_nil)))) A_nil)) A_nil)) L_int) L_int))) L_next)) (L_seq (L_set (L_bin S_add4 (L_bin S_mod (L_cb C_int (A_cons (L_bin S_add4 (L_bin S_mul (L_bin S_mod (L_cb C_int (A_cons (L_var (i := 2)) A_nil)) L_int) L_int) (L_bin S_mul L_int (L_var (i := 1)))) A_nil)) L_int) L_int)) (L_ret (L_lst (A_cons (L_bin S_ix (L_lst (A_cons L_int (A_cons (L_var (i := 2)) A_nil))) (L_cb C_int (A_cons (L_bin S_ge (L_var (i := 2)) (L_bin S_pow L_int L_int)) A_nil))) (A_cons (L_var (i := 3)) (A_cons L_int A_nil))))))))⟩)
theorem ok_is_integer (T : Txt K mg d) : FnR P w K mg base CX0 1 d.f_is_integer (spD0 K 1 1 (D_is_integer (cl d))) :=
  mkDz T.F_is_integer sc_is_integer (by decide) (fun _ _ _ _ _ _ us hl => match us, hl with | [_], _ => rfl) (fun cdv A outer s H E hr => by
    have hu := hr.units
    have hu5 := room5 hr
    exact ⟨_, (pss_one (ps_ret (pe_and (pe_callB call_isi (by rfl) T.b_isinstance (by decide +kernel) (pa_cons (pv 0) (pa_cons (pe_bltn (v := .ty "int") rfl T.b_int (by decide +kernel) rfl) pa_nil))) (pe_one (pe_not (pe_callB call_isi (by rfl) T.b_isinstance (by decide +kernel) (pa_cons (pv 0) (pa_cons (pe_bltn (v := .ty "bool") rfl T.b_bool (by decide +kernel) rfl) pa_nil)))))))), (L_ret (L_and (L_isi (kit_ok T) (tyc T) (.ty "int") (L_var (i := 0))) (L_not (L_isi (kit_ok T) (tyc T) (.ty "bool") (L_var (i := 0))))))⟩)
theorem ok_is_number (T : Txt K mg d) : FnR P w K mg base CX0 2 d.f_is_number (spD0 K 1 1 (D_is_number (cl d))) :=
  mkDz T.F_is_number sc_is_number (by decide) (fun _ _ _ _ _ _ us hl => match us, hl with | [_], _ => rfl) (fun cdv A outer s H E hr => by
    have hu := hr.units
    have hu5 := room5 hr
    exact ⟨_, (pss_one (ps_ret (pe_and (pe_callR (sp := spD0 K 1 1 (D_is_integer (cl d))) (ok_is_integer T) (hr.mono (by decide)) rfl T.m_is_integer T.k_is_integer pass0 (pa_cons (pv 0) pa_nil)) (pe_one (pe_cmpR op_ge (pv 0) pe_int (nomark _)))))), (L_ret (L_and (Lz_call (A_cons (L_var (i := 0)) A_nil)) (L_bin S_ge (L_var (i := 0)) L_int)))⟩)
theorem ok__is_known (T : Txt K mg d) : FnR P w K mg base CX0 3 d.f__is_known (spD0 K 2 4 (D__is_known (cl d))) :=
  mkDz T.F__is_known sc__is_known (by decide) (fun _ _ _ _ _ _ us hl => match us, hl with | [_, _], _ => rfl) (fun cdv A outer s H E hr => by
    have hu := hr.units
    have hu5 := room5 hr
    exact ⟨_, (pss_cons (ps_if (PW.pt (pw_or (pt_not (pt_val (pe_callB call_isi (by rfl) T.b_isinstance (by decide +kernel) (pa_cons (pv 0) (pa_cons (pe_bltn (v := .ty "tuple") rfl T.b_tuple (by decide +kernel) rfl) pa_nil))))) (pw_or1 (pt_cmpR (op_ne2 (K := K) hu) (pe_callB (call_len2 (K := K)) (by rfl) T.b_len PySem.boot_len (pa_cons (pv 0) pa_nil)) pe_int (nomark _))))) (pss_one (ps_ret pe_bl)) pss_nil) (pss_cons (ps_asg (pv 0) (pg_tupK (K := K) (n := 2) rfl (pgs_cons (pg_name (i := 2) sc__is_known.nd rfl (by first | exact Or.inl rfl | exact Or.inr rfl)) (pgs_cons (pg_name (i := 3) sc__is_known.nd rfl (by first | exact Or.inl rfl | exact Or.inr rfl)) pgs_nil)))) (pss_one (ps_ret (pe_and (pe_callR (sp := spD0 K 1 1 (D_is_number (cl d))) (ok_is_number T) (hr.mono (by decide)) rfl T.m_is_number T.k_is_number pass0 (pa_cons (pv 2) pa_nil)) (pe_and (pe_cmpR (op_lt2 (K := K) hu) (pv 2) (pv 1) (nomark _)) (pe_one (pe_callB call_isi (by rfl) T.b_isinstance (by decide +kernel) (pa_cons (pv 3) (pa_cons (pe_bltn (v := .ty "bool") rfl T.b_bool (by decide +kernel) rfl) pa_nil)))))))))), (L_seq (L_if (L_tor (L_tnot (L_test (L_isi (kit_ok T) (tyc T) (.ty "tuple") (L_var (i := 0))))) (L_test (L_bin S_ne (L_cb C_len (A_cons (L_var (i := 0)) A_nil)) L_int))) (L_ret L_bl) L_next) (L_seq (L_tgt (vs := [2, 3]) (L_var (i := 0)) (U_tup (Us_cons (U_name (by decide)) (Us_cons (U_name (by decide)) Us_nil)))) (L_ret (L_and (Lz_call (A_cons (L_var (i := 2)) A_nil)) (L_and (L_bin S_lt2 (L_var (i := 2)) (L_var (i := 1))) (L_isi (kit_ok T) (tyc T) (.ty "bool") (L_var (i := 3))))))))⟩)
theorem ok_is_sequence (T : Txt K mg d) : FnR P w K mg base CX0 1 d.f_is_sequence (spD0 K 1 1 (D_is_sequence (cl d))) :=
  mkDz T.F_is_sequence sc_is_sequence (by decide) (fun _ _ _ _ _ _ us hl => match us, hl with | [_], _ => rfl) (fun cdv A outer s H E hr => by
    have hu := hr.units
    have hu5 := room5 hr
    exact ⟨_, (pss_one (ps_ret (pe_callB call_isiT (by rfl) T.b_isinstance (by decide +kernel) (pa_cons (pv 0) (pa_cons (pe_tup (pa_cons (pe_bltn (v := .ty "list") rfl T.b_list (by decide +kernel) rfl) (pa_cons (pe_bltn (v := .ty "tuple") rfl T.b_tuple (by decide +kernel) rfl) pa_nil))) pa_nil))))), (L_ret (L_isiT (cs := [(.ty "list"), (.ty "tuple")]) (kit_ok T) (tyc T) (.cons (.ty "list") (.cons (.ty "tuple") .nil)) (by decide) (L_var (i := 0))))⟩)
theorem ok__are_known (T : Txt K mg d) : FnR P w K mg base CX0 4 d.f__are_known (spD0 K 2 3 (D__are_known (cl d))) :=
  mkDz T.F__are_known sc__are_known (by decide) (fun _ _ _ _ _ _ us hl => match us, hl with | [_, _], _ => rfl) (fun cdv A outer s H E hr => by
    have hu := hr.units
    have hu5 := room5 hr
    exact ⟨_, (pss_one (ps_ret (pe_and (pe_callR (sp := spD0 K 1 1 (D_is_sequence (cl d))) (ok_is_sequence T) (hr.mono (by decide)) rfl T.m_is_sequence T.k_is_sequence pass0 (pa_cons (pv 0) pa_nil)) (pe_one (pe_callB (cr_all rfl) (by rfl) T.b_all (by decide +kernel) (pa_cons (pe_lc (own := [("pair", 2)]) rfl sc__are_known.nd (pi_seq (K := K) (pv 0)) (blkOk_by (N := ["value", "length", "pair"]) (sc := defScope s__are_known) (by decide +kernel)) (fun _ _ _ _ _ => (pg_name (i := 2) sc__are_known.nd rfl (by first | exact Or.inl rfl | exact Or.inr rfl))) (fun _ _ _ _ _ => pts_nil) (fun _ _ _ _ _ => (pe_callR (sp := spD0 K 2 4 (D__is_known (cl d))) (ok__is_known T) (hr.mono (by decide)) rfl T.m__is_known T.k__is_known pass0 (pa_cons (pv 2) (pa_cons (pv 1) pa_nil))))) pa_nil)))))), (L_ret (L_and (Lz_call (A_cons (L_var (i := 0)) A_nil)) (L_cb C_all (A_cons (L_lcS (Et := E0) (Ea := E0) (L_var (i := 0)) (U_name (by decide)) L_yes (Lz_call (A_cons (L_var (i := 2)) (A_cons (L_var (i := 1)) A_nil)))) A_nil))))⟩)
theorem ok_is_positive (T : Txt K mg d) : FnR P w K mg base CX0 2 d.f_is_positive (spD0 K 1 1 (D_is_positive (cl d))) :=
  mkDz T.F_is_positive sc_is_positive (by decide) (fun _ _ _ _ _ _ us hl => match us, hl with | [_], _ => rfl) (fun cdv A outer s H E hr => by
    have hu := hr.units
    have hu5 := room5 hr
    exact ⟨_, (pss_one (ps_ret (pe_and (pe_callR (sp := spD0 K 1 1 (D_is_integer (cl d))) (ok_is_integer T) (hr.mono (by decide)) rfl T.m_is_integer T.k_is_integer pass0 (pa_cons (pv 0) pa_nil)) (pe_one (pe_cmpR op_ge (pv 0) pe_int (nomark _)))))), (L_ret (L_and (Lz_call (A_cons (L_var (i := 0)) A_nil)) (L_bin S_ge (L_var (i := 0)) L_int)))⟩)
theorem ok_wrong_argument_frames (T : Txt K mg d) : FnR P w K mg base CX0 5 d.f_wrong_argument_frames (spD0 K 5 5 (D_wrong_argument_frames (cl d))) :=
  mkDz T.F_wrong_argument_frames sc_wrong_argument_frames (by decide) (fun _ _ _ _ _ _ us hl => match us, hl with | [_, _, _, _, _], _ => rfl) (fun cdv A outer s H E hr => by
    have hu := hr.units
    have hu5 := room5 hr
    exact ⟨_, (pss_cons (ps_if (pt_not (pt_val (pe_callR (sp := spD0 K 1 1 (D_is_positive (cl d))) (ok_is_positive T) (hr.mono (by decide)) rfl T.m_is_positive T.k_is_positive pass0 (pa_cons (pv 0) pa_nil)))) (pss_one (ps_ret pe_str)) pss_nil) (pss_cons (ps_if (pt_not (pt_val (pe_callR (sp := spD0 K 1 1 (D_is_positive (cl d))) (ok_is_positive T) (hr.mono (by decide)) rfl T.m_is_positive T.k_is_positive pass0 (pa_cons (pv 1) pa_nil)))) (pss_one (ps_ret pe_str)) pss_nil) (pss_cons (ps_if (PW.pt (pw_and (pt_cmp (pc_notN (pv 2))) (pw_and1 (pt_not (pt_val (pe_callR (sp := spD0 K 1 1 (D_is_number (cl d))) (ok_is_number T) (hr.mono (by decide)) rfl T.m_is_number T.k_is_number pass0 (pa_cons (pv 2) pa_nil))))))) (pss_one (ps_ret pe_str)) pss_nil) (pss_cons (ps_if (pt_not (pt_val (pe_callB call_isi (by rfl) T.b_isinstance (by decide +kernel) (pa_cons (pv 3) (pa_cons (pe_bltn (v := .ty "bool") rfl T.b_bool (by decide +kernel) rfl) pa_nil))))) (pss_one (ps_ret pe_str)) pss_nil) (pss_cons (ps_if (pt_not (pt_val (pe_callR (sp := spD0 K 2 3 (D__are_known (cl d))) (ok__are_known T) (hr.mono (by decide)) rfl T.m__are_known T.k__are_known pass0 (pa_cons (pv 4) (pa_cons (pv 0) pa_nil))))) (pss_one (ps_ret pe_str)) pss_nil) (pss_one (ps_ret pe_non))))))), (L_seq (L_if (L_tnot (L_test (Lz_call (A_cons (L_var (i := 0)) A_nil)))) (L_ret L_str) L_next) (L_seq (L_if (L_tnot (L_test (Lz_call (A_cons (L_var (i := 1)) A_nil)))) (L_ret L_str) L_next) (L_seq (L_if (L_tand (L_test (L_notN (L_var (i := 2)))) (L_tnot (L_test (Lz_call (A_cons (L_var (i := 2)) A_nil))))) (L_ret L_str) L_next) (L_seq (L_if (L_tnot (L_test (L_isi (kit_ok T) (tyc T) (.ty "bool") (L_var (i := 3))))) (L_ret L_str) L_next) (L_seq (L_if (L_tnot (L_test (Lz_call (A_cons (L_var (i := 4)) (A_cons (L_var (i := 0)) A_nil))))) (L_ret L_str) L_next) (L_ret L_non))))))⟩)
theorem body_Frame___init__ (T : Txt K mg d) (cdv : Value) (A : Around) (outer : List Env) (s : Shared) (H : Hp) (E : XK) (hr : Room 5 (A.deeper (envOfC "Frame.__init__" (defScope s_Frame___init__) s.heap.objs.size d.f_Frame___init__ cdv))) :
    ∃ t, PSs (cxOf CX0 P w K mg base ["self", "length", "shortest", "most", "private", "known", "wrong"] "Frame.__init__" (defScope s_Frame___init__) d.f_Frame___init__ cdv A outer s H E).nox (defBody s_Frame___init__) t ∧ LS K E0 t (D_Frame___init__ (cl d)) := by
    have hu := hr.units
    have hu5 := room5 hr
    exact ⟨_, (pss_cons (ps_set (i := 6) sc_Frame___init__.nd rfl (by first | exact Or.inl rfl | exact Or.inr rfl) (pe_callR (sp := spD0 K 5 5 (D_wrong_argument_frames (cl d))) (ok_wrong_argument_frames T) (hr.mono (by decide)) rfl T.m_wrong_argument_frames T.k_wrong_argument_frames pass0 (pa_cons (pv 1) (pa_cons (pv 2) (pa_cons (pv 3) (pa_cons (pv 4) (pa_cons (pv 5) pa_nil))))))) (pss_cons (ps_if (pt_cmp (pc_notN (pv 6))) (pss_one ps_dead) pss_nil) (pss_cons (ps_fld (pv 0) (pv 1) rfl) (pss_cons (ps_fld (pv 0) (pv 2) rfl) (pss_cons (ps_fld (pv 0) (pv 3) rfl) (pss_cons (ps_fld (pv 0) (pv 4) rfl) (pss_one (ps_fld (pv 0) (pe_callTy call_tuple_of rfl T.b_tuple (by decide +kernel) (pa_cons (pv 5) pa_nil)) rfl)))))))), (L_seq (L_set (Lz_call (A_cons (L_var (i := 1)) (A_cons (L_var (i := 2)) (A_cons (L_var (i := 3)) (A_cons (L_var (i := 4)) (A_cons (L_var (i := 5)) A_nil))))))) (L_seq (L_if (L_test (L_notN (L_var (i := 6)))) L_dead L_next) (L_seq (L_sfld (i := 0) (fs_Frame_length T) (L_var (i := 1))) (L_seq (L_sfld (i := 0) (fs_Frame_shortest T) (L_var (i := 2))) (L_seq (L_sfld (i := 0) (fs_Frame_most T) (L_var (i := 3))) (L_seq (L_sfld (i := 0) (fs_Frame_private T) (L_var (i := 4))) (L_sfld (i := 0) (fs_Frame_known T) (L_cb C_tuple (A_cons (L_var (i := 5)) A_nil)))))))))⟩
theorem ok_Frame_init5 (T : Txt K mg d) : FnR P w K mg base CX0 6 d.f_Frame___init__ (spD0 K 6 7 (fun ρ => D_Frame___init__ (cl d) (fillD 6 [] ρ))) :=
  mkDD (T := D_Frame___init__ (cl d)) (N := ["self", "length", "shortest", "most", "private", "known", "wrong"]) (dd := []) 6 4 T.F_Frame___init__ (by simp [dv_Frame]) rfl sc_Frame___init__ (by decide) (fun G => RepA.nil)
    (fun _ _ _ _ _ _ _ us its h1 h2 => match us, its, h1, h2 with | [_, _, _, _, _, _], [_, _, _, _], _, _ => ⟨_, rfl, rfl⟩)
    (fun cdv A outer s H E hr => let ⟨t, h1, h2⟩ := body_Frame___init__ T cdv A outer s H E hr; ⟨t, h1.nox, h2⟩)
end
end DD
set_option Elab.async false
set_option linter.all false
set_option maxRecDepth 100000
set_option maxHeartbeats 4000000
namespace DD
open PySem PySem.Spec PyProof.Rows L2 StX ClX DL
section
variable {P : Program} {w : World} {K : PySem.W.Frag} {mg : Str → Option Value} {base : Heap} {d : Ad}
theorem ok__law_frame_of (T : Txt K mg d) : FnR P w K mg base CX0 8 d.f__law_frame_of (spD0 K 1 1 (D__law_frame_of (cl d))) :=
  mkDz T.F__law_frame_of sc__law_frame_of (by decide) (fun _ _ _ _ _ _ us hl => match us, hl with | [_], _ => rfl) (fun cdv A outer s H E hr => by
    have hu := hr.units
    have hu5 := room5 hr
    exact ⟨_, (pss_one (ps_ret (pe_makeR (sp := spD0 K 6 7 (fun ρ => D_Frame___init__ (cl d) (fillD 6 [] ρ))) T.mk_Frame (ok_Frame_init5 T) (hr.mono (by decide)) rfl T.m_Frame pass0 (pa_cons (pe_ix (ix_3 (K := K)) (pv 0) pe_int (fun _ _ => rfl)) (pa_cons (pe_ix (ix_3 (K := K)) (pv 0) pe_int (fun _ _ => rfl)) (pa_cons (pe_ix (ix_3 (K := K)) (pv 0) pe_int (fun _ _ => rfl)) (pa_cons (pe_ix (ix_3 (K := K)) (pv 0) pe_int (fun _ _ => rfl)) (pa_cons (pe_ix (ix_3 (K := K)) (pv 0) pe_int (fun _ _ => rfl)) pa_nil)))))))), (L_ret (Lz_make (A_cons (L_bin S_ix (L_var (i := 0)) L_int) (A_cons (L_bin S_ix (L_var (i := 0)) L_int) (A_cons (L_bin S_ix (L_var (i := 0)) L_int) (A_cons (L_bin S_ix (L_var (i := 0)) L_int) (A_cons (L_bin S_ix (L_var (i := 0)) L_int) A_nil)))))))⟩)
theorem ok__law_take (T : Txt K mg d) : FnR P w K mg base CX0 1 d.f__law_take (spD0 K 2 4 (D__law_take (cl d))) :=
  mkDz T.F__law_take sc__law_take (by decide) (fun _ _ _ _ _ _ us hl => match us, hl with | [_, _], _ => rfl) (fun cdv A outer s H E hr => by
    have hu := hr.units
    have hu5 := room5 hr
    exact ⟨_, (pss_cons (ps_if (pt_cmpR op_gt (pe_ix (ix_3 (K := K)) (pv 0) pe_int (fun _ _ => rfl)) pe_int (nomark _)) (pss_cons (ps_set (i := 3) sc__law_take.nd rfl (by first | exact Or.inl rfl | exact Or.inr rfl) (pe_op op_mod (pe_callTy call_int2 rfl T.b_int (by decide +kernel) (pa_cons (pe_ix (ix_3 (K := K)) (pv 0) pe_int (fun _ _ => rfl)) pa_nil)) (pv 1))) (pss_cons (ps_asg (pe_op op_fdiv (pe_ix (ix_3 (K := K)) (pv 0) pe_int (fun _ _ => rfl)) (pv 1)) (pg_sub (pv 0) pe_int set_list)) (pss_one (ps_ret (pv 3))))) pss_nil) (pss_cons (ps_asg (pe_op (op_add4 (K := K)) (pe_ix (ix_3 (K := K)) (pv 0) pe_int (fun _ _ => rfl)) pe_int) (pg_sub (pv 0) pe_int set_list)) (pss_cons (ps_set (i := 2) sc__law_take.nd rfl (by first | exact Or.inl rfl | exact Or.inr rfl) (pe_op op_mod (pe_callTy call_int2 rfl T.b_int (by decide +kernel) (pa_cons (pe_op op_mul (pe_op (op_add4 (K := K)) (pe_ix (ix_3 (K := K)) (pv 0) pe_int (fun _ _ => rfl)) (pe_op op_mul pe_int (pe_ix (ix_3 (K := K)) (pv 0) pe_int (fun _ _ => rfl)))) pe_int) pa_nil)) pe_int)) (pss_cons (ps_asg (pe_op (op_add4 (K := K)) (pe_op op_mod (pe_callTy call_int2 rfl T.b_int (by decide +kernel) (pa_cons (pe_op (op_add4 (K := K)) (pe_op op_mul (pv 2) pe_int) pe_int) pa_nil)) pe_int) pe_int) (pg_sub (pv 0) pe_int set_list)) (pss_one (ps_ret (pe_op op_mod (pe_callTy call_int2 rfl T.b_int (by decide +kernel) (pa_cons (pe_op op_fdiv (pe_op (op_add4 (K := K)) (pe_op op_mul (pv 2) pe_int) (pe_ix (ix_3 (K := K)) (pv 0) pe_int (fun _ _ => rfl))) pe_int) pa_nil)) (pv 1)))))))), (L_seq (L_if (L_test (L_bin S_gt (L_bin S_ix (L_var (i := 0)) L_int) L_int)) (L_seq (L_set (L_bin S_mod (L_cb C_int (A_cons (L_bin S_ix (L_var (i := 0)) L_int) A_nil)) (L_var (i := 1)))) (L_seq (L_put (i := 0) (L_bin S_fdiv (L_bin S_ix (L_var (i := 0)) L_int) (L_var (i := 1))) L_int) (L_ret (L_var (i := 3))))) L_next) (L_seq (L_put (i := 0) (L_bin S_add4 (L_bin S_ix (L_var (i := 0)) L_int) L_int) L_int) (L_seq (L_set (L_bin S_mod (L_cb C_int (A_cons (L_bin S_mul (L_bin S_add4 (L_bin S_ix (L_var (i := 0)) L_int) (L_bin S_mul L_int (L_bin S_ix (L_var (i := 0)) L_int))) L_int) A_nil)) L_int)) (L_seq (L_put (i := 0) (L_bin S_add4 (L_bin S_mod (L_cb C_int (A_cons (L_bin S_add4 (L_bin S_mul (L_var (i := 2)) L_int) L_int) A_nil)) L_int) L_int) L_int) (L_ret (L_bin S_mod (L_cb C_int (A_cons (L_bin S_fdiv (L_bin S_add4 (L_bin S_mul (L_var (i := 2)) L_int) (L_bin S_ix (L_var (i := 0)) L_int)) L_int) A_nil)) (L_var (i := 1))))))))⟩)
theorem ok__law_pick (T : Txt K mg d) : FnR P w K mg base CX0 2 d.f__law_pick (spD0 K 2 2 (D__law_pick (cl d))) :=
  mkDz T.F__law_pick sc__law_pick (by decide) (fun _ _ _ _ _ _ us hl => match us, hl with | [_, _], _ => rfl) (fun cdv A outer s H E hr => by
    have hu := hr.units
    have hu5 := room5 hr
    exact ⟨_, (pss_one (ps_ret (pe_ix (ix_3 (K := K)) (pv 1) (pe_callR (sp := spD0 K 2 4 (D__law_take (cl d))) (ok__law_take T) (hr.mono (by decide)) rfl T.m__law_take T.k__law_take pass0 (pa_cons (pv 0) (pa_cons (pe_callB (call_len2 (K := K)) (by rfl) T.b_len PySem.boot_len (pa_cons (pv 1) pa_nil)) pa_nil))) (fun _ _ => rfl)))), (L_ret (L_bin S_ix (L_var (i := 1)) (Lz_lend (i := 0) (A_cons (L_cb C_len (A_cons (L_var (i := 1)) A_nil)) A_nil))))⟩)
theorem ok__law_ground (T : Txt K mg d) : FnR P w K mg base CX0 3 d.f__law_ground (spD0 K 3 9 (D__law_ground (cl d))) :=
  mkDz T.F__law_ground sc__law_ground (by decide) (fun _ _ _ _ _ _ us hl => match us, hl with | [_, _, _], _ => rfl) (fun cdv A outer s H E hr => by
    have hu := hr.units
    have hu5 := room5 hr
    exact ⟨_, (pss_cons (ps_asg (pe_tup (pa_cons (pe_op (op_add4 (K := K)) (pv 1) (pe_callR (sp := spD0 K 2 4 (D__law_take (cl d))) (ok__law_take T) (hr.mono (by decide)) rfl T.m__law_take T.k__law_take pass0 (pa_cons (pv 0) (pa_cons (pe_op (op_add4 (K := K)) (pe_op op_sub (pv 2) (pv 1)) pe_int) pa_nil)))) (pa_cons (pe_callR (sp := spD0 K 2 2 (D__law_pick (cl d))) (ok__law_pick T) (hr.mono (by decide)) rfl T.m__law_pick T.k__law_pick pass0 (pa_cons (pv 0) (pa_cons (pe_lst (pa_cons pe_int (pa_cons pe_int (pa_cons pe_int (pa_cons pe_int (pa_cons pe_int (pa_cons pe_int (pa_cons pe_int pa_nil)))))))) pa_nil))) pa_nil))) (pg_tupK (K := K) (n := 2) rfl (pgs_cons (pg_name (i := 6) sc__law_ground.nd rfl (by first | exact Or.inl rfl | exact Or.inr rfl)) (pgs_cons (pg_name (i := 7) sc__law_ground.nd rfl (by first | exact Or.inl rfl | exact Or.inr rfl)) pgs_nil)))) (pss_cons (ps_set (i := 3) sc__law_ground.nd rfl (by first | exact Or.inl rfl | exact Or.inr rfl) (pe_lst pa_nil)) (pss_cons (ps_for PassesOwn.never rfl (pi_range1 rfl T.b_range (pa_cons (pe_callR (sp := spD0 K 2 2 (D__law_pick (cl d))) (ok__law_pick T) (hr.mono (by decide)) rfl T.m__law_pick T.k__law_pick pass0 (pa_cons (pv 0) (pa_cons (pe_lst (pa_cons pe_int (pa_cons pe_int (pa_cons pe_int (pa_cons pe_int (pa_cons pe_int pa_nil)))))) pa_nil))) pa_nil)) (pg_name (i := 4) sc__law_ground.nd rfl (by first | exact Or.inl rfl | exact Or.inr rfl)) (pss_one (ps_expr (pe_bm PySem.F.plainAttrs_list PySem.F.slot_list_append PySem.F.type_list_append mt_append (pv 3) (pa_cons (pe_tup (pa_cons (pe_callR (sp := spD0 K 2 4 (D__law_take (cl d))) (ok__law_take T) (hr.mono (by decide)) rfl T.m__law_take T.k__law_take pass0 (pa_cons (pv 0) (pa_cons (pv 6) pa_nil))) (pa_cons (pe_cmpR (op_eq2 (K := K) hu) (pe_callR (sp := spD0 K 2 4 (D__law_take (cl d))) (ok__law_take T) (hr.mono (by decide)) rfl T.m__law_take T.k__law_take pass0 (pa_cons (pv 0) (pa_cons pe_int pa_nil))) pe_int (nomark _)) pa_nil))) pa_nil))))) (pss_cons (ps_set (i := 5) sc__law_ground.nd rfl (by first | exact Or.inl rfl | exact Or.inr rfl) (pe_callR (sp := spD0 K 2 2 (D__law_pick (cl d))) (ok__law_pick T) (hr.mono (by decide)) rfl T.m__law_pick T.k__law_pick pass0 (pa_cons (pv 0) (pa_cons (pe_lst (pa_cons pe_non (pa_cons pe_non (pa_cons pe_non (pa_cons pe_non (pa_cons pe_int (pa_cons pe_int (pa_cons pe_int (pa_cons pe_int pa_nil))))))))) pa_nil)))) (pss_cons (ps_if (pt_cmpR op_gt (pe_callR (sp := spD0 K 2 4 (D__law_take (cl d))) (ok__law_take T) (hr.mono (by decide)) rfl T.m__law_take T.k__law_take pass0 (pa_cons (pv 0) (pa_cons pe_int pa_nil))) pe_int (nomark _)) (pss_one (ps_ret (pe_tup (pa_cons (pv 6) (pa_cons (pv 7) (pa_cons (pv 5) (pa_cons pe_bl (pa_cons (pe_callTy call_tuple_of rfl T.b_tuple (by decide +kernel) (pa_cons (pv 3) pa_nil)) pa_nil)))))))) pss_nil) (pss_cons (ps_set (i := 6) sc__law_ground.nd rfl (by first | exact Or.inl rfl | exact Or.inr rfl) (pe_callB (call_min2 rfl) (by rfl) T.b_min (by decide +kernel) (pa_cons pe_int (pa_cons (pe_callTy call_int2 rfl T.b_int (by decide +kernel) (pa_cons (pv 6) pa_nil)) pa_nil)))) (pss_one (ps_ret (pe_tup (pa_cons (pv 6) (pa_cons (pv 7) (pa_cons (pv 5) (pa_cons pe_bl (pa_cons (pe_callTy call_tuple_of rfl T.b_tuple (by decide +kernel) (pa_cons (pe_lc (own := [("_law_pair", 8)]) rfl sc__law_ground.nd (pi_seq (K := K) (pv 3)) (blkOk_by (N := ["_law_box_here", "_law_low", "_law_wide", "_law_facts", "_law_turn", "_law_top", "_law_far", "_law_brief", "_law_pair"]) (sc := defScope s__law_ground) (by decide +kernel)) (fun _ _ _ _ _ => (pg_name (i := 8) sc__law_ground.nd rfl (by first | exact Or.inl rfl | exact Or.inr rfl))) (fun _ _ _ _ _ => (pts_one (pt_cmpR (op_lt2 (K := K) hu) (pe_ix (ix_3 (K := K)) (pv 8) pe_int (fun _ _ => rfl)) (pv 6) (nomark _)))) (fun _ _ _ _ _ => (pv 8))) pa_nil)) pa_nil)))))))))))))), (L_seq (L_tupN (is := [6, 7]) (N_cons (L_bin S_add4 (L_var (i := 1)) (Lz_lend (i := 0) (A_cons (L_bin S_add4 (L_bin S_sub (L_var (i := 2)) (L_var (i := 1))) L_int) A_nil))) (N_cons (Lz_lend (i := 0) (A_cons (L_lst (A_cons L_int (A_cons L_int (A_cons L_int (A_cons L_int (A_cons L_int (A_cons L_int (A_cons L_int A_nil)))))))) A_nil)) N_nil)) rfl (by decide)) (L_seq (L_set (L_lst A_nil)) (L_seq (L_for (vs := [4]) (I_rng1 (Lz_lend (i := 0) (A_cons (L_lst (A_cons L_int (A_cons L_int (A_cons L_int (A_cons L_int (A_cons L_int A_nil)))))) A_nil))) (U_name (by decide)) (L_drop (L_mut (i := 3) M_append (A_cons (L_tup (A_cons (Lz_lend (i := 0) (A_cons (L_var (i := 6)) A_nil)) (A_cons (L_bin S_eq (Lz_lend (i := 0) (A_cons L_int A_nil)) L_int) A_nil))) A_nil)))) (L_seq (L_set (Lz_lend (i := 0) (A_cons (L_lst (A_cons L_non (A_cons L_non (A_cons L_non (A_cons L_non (A_cons L_int (A_cons L_int (A_cons L_int (A_cons L_int A_nil))))))))) A_nil))) (L_seq (L_if (L_test (L_bin S_gt (Lz_lend (i := 0) (A_cons L_int A_nil)) L_int)) (L_ret (L_tup (A_cons (L_var (i := 6)) (A_cons (L_var (i := 7)) (A_cons (L_var (i := 5)) (A_cons L_bl (A_cons (L_cb C_tuple (A_cons (L_var (i := 3)) A_nil)) A_nil))))))) L_next) (L_seq (L_set (L_cb C_min (A_cons L_int (A_cons (L_cb C_int (A_cons (L_var (i := 6)) A_nil)) A_nil)))) (L_ret (L_tup (A_cons (L_var (i := 6)) (A_cons (L_var (i := 7)) (A_cons (L_var (i := 5)) (A_cons L_bl (A_cons (L_cb C_tuple (A_cons (L_lcS (Et := E0) (Ea := E0) (L_var (i := 3)) (U_name (by decide)) (L_test (L_bin S_lt2 (L_bin S_ix (L_var (i := 8)) L_int) (L_var (i := 6)))) (L_var (i := 8))) A_nil)) A_nil)))))))))))))⟩)
theorem ok__law_taken (T : Txt K mg d) : FnR P w K mg base CX0 1 d.f__law_taken (spD0 K 1 5 (D__law_taken (cl d))) :=
  mkDz T.F__law_taken sc__law_taken (by decide) (fun _ _ _ _ _ _ us hl => match us, hl with | [_], _ => rfl) (fun cdv A outer s H E hr => by
    have hu := hr.units
    have hu5 := room5 hr
    exact ⟨_, (pss_cons (ps_set (i := 1) sc__law_taken.nd rfl (by first | exact Or.inl rfl | exact Or.inr rfl) (pe_lst pa_nil)) (pss_cons (ps_for PassesOwn.never rfl (pi_seq (K := K) (pv 0)) (pg_tupK (K := K) (n := 3) rfl (pgs_cons (pg_name (i := 2) sc__law_taken.nd rfl (by first | exact Or.inl rfl | exact Or.inr rfl)) (pgs_cons (pg_name (i := 3) sc__law_taken.nd rfl (by first | exact Or.inl rfl | exact Or.inr rfl)) (pgs_cons (pg_name (i := 4) sc__law_taken.nd rfl (by first | exact Or.inl rfl | exact Or.inr rfl)) pgs_nil)))) (pss_one (ps_expr (pe_bm PySem.F.plainAttrs_list PySem.F.slot_list_extend PySem.F.type_list_extend mt_extend (pv 1) (pa_cons (pe_listRg rfl rfl T.b_list (prg_2 rfl T.b_range (pv 2) (pv 3))) pa_nil))))) (pss_one (ps_ret (pv 1))))), (L_seq (L_set (L_lst A_nil)) (L_seq (L_forS (vs := [2, 3, 4]) (L_var (i := 0)) (U_tup (Us_cons (U_name (by decide)) (Us_cons (U_name (by decide)) (Us_cons (U_name (by decide)) Us_nil)))) (L_drop (L_mut (i := 1) M_extend (A_cons (L_lstRg (G_2 (L_var (i := 2)) (L_var (i := 3)))) A_nil)))) (L_ret (L_var (i := 1)))))⟩)
theorem ok__law_lets (T : Txt K mg d) : FnR P w K mg base CX0 2 d.f__law_lets (spD0 K 2 8 (D__law_lets (cl d))) :=
  mkDz T.F__law_lets sc__law_lets (by decide) (fun _ _ _ _ _ _ us hl => match us, hl with | [_, _], _ => rfl) (fun cdv A outer s H E hr => by
    have hu := hr.units
    have hu5 := room5 hr
    exact ⟨_, (pss_cons (ps_if (PW.pt (pw_and (pt_cmp (pc_notN (pe_ix (ix_3 (K := K)) (pv 0) pe_int (fun _ _ => rfl)))) (pw_and1 (pt_cmpR op_gt (pe_callB (call_len2 (K := K)) (by rfl) T.b_len PySem.boot_len (pa_cons (pv 1) pa_nil)) (pe_ix (ix_3 (K := K)) (pv 0) pe_int (fun _ _ => rfl)) (nomark _))))) (pss_one (ps_ret pe_bl)) pss_nil) (pss_cons (ps_for PassesOwn.never rfl (pi_seq (K := K) (pv 1)) (pg_tupK (K := K) (n := 3) rfl (pgs_cons (pg_name (i := 3) sc__law_lets.nd rfl (by first | exact Or.inl rfl | exact Or.inr rfl)) (pgs_cons (pg_name (i := 4) sc__law_lets.nd rfl (by first | exact Or.inl rfl | exact Or.inr rfl)) (pgs_cons (pg_name (i := 5) sc__law_lets.nd rfl (by first | exact Or.inl rfl | exact Or.inr rfl)) pgs_nil)))) (pss_one (ps_if (PW.pt (pw_or (pt_cmpR (op_lt2 (K := K) hu) (pe_op op_sub (pv 4) (pv 3)) (pe_ix (ix_3 (K := K)) (pv 0) pe_int (fun _ _ => rfl)) (nomark _)) (pw_or1 (PW.pt (pw_and (pt_val (pv 5)) (pw_and1 (pt_not (pt_val (pe_ix (ix_3 (K := K)) (pv 0) pe_int (fun _ _ => rfl)))))))))) (pss_one (ps_ret pe_bl)) pss_nil))) (pss_cons (ps_set (i := 2) sc__law_lets.nd rfl (by first | exact Or.inl rfl | exact Or.inr rfl) (pe_callR (sp := spD0 K 1 5 (D__law_taken (cl d))) (ok__law_taken T) (hr.mono (by decide)) rfl T.m__law_taken T.k__law_taken pass0 (pa_cons (pv 1) pa_nil))) (pss_one (ps_ret (pe_cmpR (op_eq2 (K := K) hu) (pe_lc (own := [("_law_tick", 6), ("_law_is_taken", 7)]) rfl sc__law_lets.nd (pi_seq (K := K) (pe_ix (ix_3 (K := K)) (pv 0) pe_int (fun _ _ => rfl))) (blkOk_by (N := ["_law_ground_here", "_law_meetings_here", "_law_taken_here", "_law_begin", "_law_end", "_law_is_private", "_law_tick", "_law_is_taken"]) (sc := defScope s__law_lets) (by decide +kernel)) (fun _ _ _ _ _ => (pg_tupK (K := K) (n := 2) rfl (pgs_cons (pg_name (i := 6) sc__law_lets.nd rfl (by first | exact Or.inl rfl | exact Or.inr rfl)) (pgs_cons (pg_name (i := 7) sc__law_lets.nd rfl (by first | exact Or.inl rfl | exact Or.inr rfl)) pgs_nil)))) (fun _ _ _ _ _ => (pts_one (pt_cmpR (op_ne2 (K := K) hu) (pe_cmpR (op_in2 (K := K) hu5) (pv 6) (pv 2) rfl) (pv 7) (nomark _)))) (fun _ _ _ _ _ => pe_int)) (pe_lst pa_nil) (nomark _))))))), (L_seq (L_if (L_tand (L_test (L_notN (L_bin S_ix (L_var (i := 0)) L_int))) (L_test (L_bin S_gt (L_cb C_len (A_cons (L_var (i := 1)) A_nil)) (L_bin S_ix (L_var (i := 0)) L_int)))) (L_ret L_bl) L_next) (L_seq (L_forS (vs := [3, 4, 5]) (L_var (i := 1)) (U_tup (Us_cons (U_name (by decide)) (Us_cons (U_name (by decide)) (Us_cons (U_name (by decide)) Us_nil)))) (L_if (L_tor (L_test (L_bin S_lt2 (L_bin S_sub (L_var (i := 4)) (L_var (i := 3))) (L_bin S_ix (L_var (i := 0)) L_int))) (L_tand (L_test (L_var (i := 5))) (L_tnot (L_test (L_bin S_ix (L_var (i := 0)) L_int))))) (L_ret L_bl) L_next)) (L_seq (L_set (Lz_call (A_cons (L_var (i := 1)) A_nil))) (L_ret (L_bin S_eq (L_lcS (Et := E0) (Ea := E0) (L_bin S_ix (L_var (i := 0)) L_int) (U_tup (Us_cons (U_name (by decide)) (Us_cons (U_name (by decide)) Us_nil))) (L_test (L_bin S_ne (L_bin S_in (L_var (i := 6)) (L_var (i := 2))) (L_var (i := 7)))) L_int) (L_lst A_nil))))))⟩)
theorem ok__law_meetings (T : Txt K mg d) : FnR P w K mg base CX0 3 d.f__law_meetings (spD0 K 2 7 (D__law_meetings (cl d))) :=
  mkDz T.F__law_meetings sc__law_meetings (by decide) (fun _ _ _ _ _ _ us hl => match us, hl with | [_, _], _ => rfl) (fun cdv A outer s H E hr => by
    have hu := hr.units
    have hu5 := room5 hr
    exact ⟨_, (pss_cons (ps_asg (pe_tup (pa_cons (pe_ix (ix_3 (K := K)) (pv 1) pe_int (fun _ _ => rfl)) (pa_cons (pe_ix (ix_3 (K := K)) (pv 1) pe_int (fun _ _ => rfl)) (pa_cons (pe_lst pa_nil) (pa_cons pe_int pa_nil))))) (pg_tupK (K := K) (n := 4) rfl (pgs_cons (pg_name (i := 2) sc__law_meetings.nd rfl (by first | exact Or.inl rfl | exact Or.inr rfl)) (pgs_cons (pg_name (i := 3) sc__law_meetings.nd rfl (by first | exact Or.inl rfl | exact Or.inr rfl)) (pgs_cons (pg_name (i := 4) sc__law_meetings.nd rfl (by first | exact Or.inl rfl | exact Or.inr rfl)) (pgs_cons (pg_name (i := 5) sc__law_meetings.nd rfl (by first | exact Or.inl rfl | exact Or.inr rfl)) pgs_nil)))))) (pss_cons (ps_while PassesOwn.never (pt_cmpR op_le (pe_op (op_add4 (K := K)) (pv 5) (pv 3)) (pv 2) (nomark _)) (pss_cons (ps_set (i := 5) sc__law_meetings.nd rfl (by first | exact Or.inl rfl | exact Or.inr rfl) (pe_op (op_add4 (K := K)) (pv 5) (pe_callR (sp := spD0 K 2 2 (D__law_pick (cl d))) (ok__law_pick T) (hr.mono (by decide)) rfl T.m__law_pick T.k__law_pick pass0 (pa_cons (pv 0) (pa_cons (pe_lst (pa_cons pe_int (pa_cons pe_int (pa_cons pe_int (pa_cons pe_int (pa_cons pe_int pa_nil)))))) pa_nil))))) (pss_cons (ps_set (i := 6) sc__law_meetings.nd rfl (by first | exact Or.inl rfl | exact Or.inr rfl) (pe_op (op_add4 (K := K)) (pe_op (op_add4 (K := K)) (pv 5) (pv 3)) (pe_callR (sp := spD0 K 2 2 (D__law_pick (cl d))) (ok__law_pick T) (hr.mono (by decide)) rfl T.m__law_pick T.k__law_pick pass0 (pa_cons (pv 0) (pa_cons (pe_lst (pa_cons pe_int (pa_cons pe_int (pa_cons pe_int (pa_cons pe_int (pa_cons pe_int pa_nil)))))) pa_nil))))) (pss_cons (ps_if (pt_cmpR op_le (pv 6) (pv 2) (nomark _)) (pss_one (ps_expr (pe_bm PySem.F.plainAttrs_list PySem.F.slot_list_append PySem.F.type_list_append mt_append (pv 4) (pa_cons (pe_tup (pa_cons (pv 5) (pa_cons (pv 6) (pa_cons (pe_and (pe_ix (ix_3 (K := K)) (pv 1) pe_int (fun _ _ => rfl)) (pe_one (pe_cmpR (op_eq2 (K := K) hu) (pe_callR (sp := spD0 K 2 4 (D__law_take (cl d))) (ok__law_take T) (hr.mono (by decide)) rfl T.m__law_take T.k__law_take pass0 (pa_cons (pv 0) (pa_cons pe_int pa_nil))) pe_int (nomark _)))) pa_nil)))) pa_nil)))) pss_nil) (pss_one (ps_set (i := 5) sc__law_meetings.nd rfl (by first | exact Or.inl rfl | exact Or.inr rfl) (pv 6))))))) (pss_one (ps_ret (pv 4))))), (L_seq (L_tupN (is := [2, 3, 4, 5]) (N_cons (L_bin S_ix (L_var (i := 1)) L_int) (N_cons (L_bin S_ix (L_var (i := 1)) L_int) (N_cons (L_lst A_nil) (N_cons L_int N_nil)))) rfl (by decide)) (L_seq (L_while 100000 (L_test (L_bin S_le (L_bin S_add4 (L_var (i := 5)) (L_var (i := 3))) (L_var (i := 2)))) (L_seq (L_set (L_bin S_add4 (L_var (i := 5)) (Lz_lend (i := 0) (A_cons (L_lst (A_cons L_int (A_cons L_int (A_cons L_int (A_cons L_int (A_cons L_int A_nil)))))) A_nil)))) (L_seq (L_set (L_bin S_add4 (L_bin S_add4 (L_var (i := 5)) (L_var (i := 3))) (Lz_lend (i := 0) (A_cons (L_lst (A_cons L_int (A_cons L_int (A_cons L_int (A_cons L_int (A_cons L_int A_nil)))))) A_nil)))) (L_seq (L_if (L_test (L_bin S_le (L_var (i := 6)) (L_var (i := 2)))) (L_drop (L_mut (i := 4) M_append (A_cons (L_tup (A_cons (L_var (i := 5)) (A_cons (L_var (i := 6)) (A_cons (L_and (L_bin S_ix (L_var (i := 1)) L_int) (L_bin S_eq (Lz_lend (i := 0) (A_cons L_int A_nil)) L_int)) A_nil)))) A_nil))) L_next) (L_set (L_var (i := 6))))))) (L_ret (L_var (i := 4)))))⟩)
theorem ok__law_drawn (T : Txt K mg d) : FnR P w K mg base CX0 4 d.f__law_drawn (spD0 K 2 4 (D__law_drawn (cl d))) :=
  mkDz T.F__law_drawn sc__law_drawn (by decide) (fun _ _ _ _ _ _ us hl => match us, hl with | [_, _], _ => rfl) (fun cdv A outer s H E hr => by
    have hu := hr.units
    have hu5 := room5 hr
    exact ⟨_, (pss_cons (ps_for PassesOwn.never rfl (pi_range1 rfl T.b_range (pa_cons pe_int pa_nil)) (pg_name (i := 2) sc__law_drawn.nd rfl (by first | exact Or.inl rfl | exact Or.inr rfl)) (pss_cons (ps_set (i := 3) sc__law_drawn.nd rfl (by first | exact Or.inl rfl | exact Or.inr rfl) (pe_callR (sp := spD0 K 2 7 (D__law_meetings (cl d))) (ok__law_meetings T) (hr.mono (by decide)) rfl T.m__law_meetings T.k__law_meetings pass0 (pa_cons (pv 0) (pa_cons (pv 1) pa_nil)))) (pss_cons (ps_set (i := 3) sc__law_drawn.nd rfl (by first | exact Or.inl rfl | exact Or.inr rfl) (pe_ifExp (pt_cmp (pc_isN (pe_ix (ix_3 (K := K)) (pv 1) pe_int (fun _ _ => rfl)))) (pv 3) (pe_slice (sl_3 (K := K)) (pv 3) po_none (po_some (pe_ix (ix_3 (K := K)) (pv 1) pe_int (fun _ _ => rfl)))))) (pss_one (ps_if (pt_val (pe_callR (sp := spD0 K 2 8 (D__law_lets (cl d))) (ok__law_lets T) (hr.mono (by decide)) rfl T.m__law_lets T.k__law_lets pass0 (pa_cons (pv 1) (pa_cons (pv 3) pa_nil)))) (pss_one (ps_ret (pv 3))) pss_nil))))) (pss_one (ps_ret pe_non))), (L_seq (L_for (vs := [2]) (I_rng1 L_int) (U_name (by decide)) (L_seq (L_set (Lz_lend (i := 0) (A_cons (L_var (i := 1)) A_nil))) (L_seq (L_set (L_ifE (L_test (L_isN (L_bin S_ix (L_var (i := 1)) L_int))) (L_var (i := 3)) (L_sl (L_var (i := 3)) O_none (O_some (L_bin S_ix (L_var (i := 1)) L_int))))) (L_if (L_test (Lz_call (A_cons (L_var (i := 1)) (A_cons (L_var (i := 3)) A_nil)))) (L_ret (L_var (i := 3))) L_next)))) (L_ret L_non))⟩)
theorem ok__law_rule (T : Txt K mg d) : FnR P w K mg base CX0 3 d.f__law_rule (spD0 K 2 7 (D__law_rule_2 (cl d))) :=
  mkDz T.F__law_rule sc__law_rule (by decide) (fun _ _ _ _ _ _ us hl => match us, hl with | [_, _], _ => rfl) (fun cdv A outer s H E hr => by
    have hu := hr.units
    have hu5 := room5 hr
    exact ⟨_, (pss_cons (ps_par (i := 4) (j := 5) rfl sc__law_rule.nd rfl rfl (by decide) rfl rfl (pa_cons (pe_callR (sp := spD0 K 2 2 (D__law_pick (cl d))) (ok__law_pick T) (hr.mono (by decide)) rfl T.m__law_pick T.k__law_pick pass0 (pa_cons (pv 0) (pa_cons (pe_lst (pa_cons pe_int (pa_cons pe_int (pa_cons pe_int (pa_cons pe_int (pa_cons pe_int (pa_cons pe_int (pa_cons pe_int pa_nil)))))))) pa_nil))) (pa_cons (pe_callR (sp := spD0 K 2 2 (D__law_pick (cl d))) (ok__law_pick T) (hr.mono (by decide)) rfl T.m__law_pick T.k__law_pick pass0 (pa_cons (pv 0) (pa_cons (pe_lst (pa_cons pe_int (pa_cons pe_int (pa_cons pe_int (pa_cons pe_int (pa_cons pe_int (pa_cons pe_int (pa_cons pe_int pa_nil)))))))) pa_nil))) pa_nil)) (by first | rfl | exact sw2 (by rfl) (by rfl) (by rfl))) (pss_cons (ps_set (i := 2) sc__law_rule.nd rfl (by first | exact Or.inl rfl | exact Or.inr rfl) pe_non) (pss_cons (ps_if (pt_cmpR (op_eq2 (K := K) hu) (pe_callR (sp := spD0 K 2 4 (D__law_take (cl d))) (ok__law_take T) (hr.mono (by decide)) rfl T.m__law_take T.k__law_take pass0 (pa_cons (pv 0) (pa_cons pe_int pa_nil))) pe_int (nomark _)) (pss_cons (ps_set (i := 6) sc__law_rule.nd rfl (by first | exact Or.inl rfl | exact Or.inr rfl) (pe_callR (sp := spD0 K 2 4 (D__law_take (cl d))) (ok__law_take T) (hr.mono (by decide)) rfl T.m__law_take T.k__law_take pass0 (pa_cons (pv 0) (pa_cons (pv 1) pa_nil)))) (pss_one (ps_set (i := 2) sc__law_rule.nd rfl (by first | exact Or.inl rfl | exact Or.inr rfl) (pe_tup (pa_cons (pv 6) (pa_cons (pe_op (op_add4 (K := K)) (pe_op (op_add4 (K := K)) (pv 6) pe_int) (pe_callR (sp := spD0 K 2 4 (D__law_take (cl d))) (ok__law_take T) (hr.mono (by decide)) rfl T.m__law_take T.k__law_take pass0 (pa_cons (pv 0) (pa_cons (pv 1) pa_nil)))) pa_nil)))))) pss_nil) (pss_cons (ps_set (i := 3) sc__law_rule.nd rfl (by first | exact Or.inl rfl | exact Or.inr rfl) (pe_callR (sp := spD0 K 2 2 (D__law_pick (cl d))) (ok__law_pick T) (hr.mono (by decide)) rfl T.m__law_pick T.k__law_pick pass0 (pa_cons (pv 0) (pa_cons (pe_lst (pa_cons pe_int (pa_cons pe_int (pa_cons pe_int (pa_cons pe_int (pa_cons pe_int (pa_cons pe_int (pa_cons pe_int pa_nil)))))))) pa_nil)))) (pss_one (ps_ret (pe_tup (pa_cons (pv 4) (pa_cons (pv 5) (pa_cons (pv 3) (pa_cons (pe_callR (sp := spD0 K 2 2 (D__law_pick (cl d))) (ok__law_pick T) (hr.mono (by decide)) rfl T.m__law_pick T.k__law_pick pass0 (pa_cons (pv 0) (pa_cons (pe_lst (pa_cons pe_str (pa_cons pe_str (pa_cons pe_str (pa_cons pe_str pa_nil))))) pa_nil))) (pa_cons (pv 2) pa_nil)))))))))))), (L_seq (L_par (N_cons (Lz_lend (i := 0) (A_cons (L_lst (A_cons L_int (A_cons L_int (A_cons L_int (A_cons L_int (A_cons L_int (A_cons L_int (A_cons L_int A_nil)))))))) A_nil)) (N_cons (Lz_lend (i := 0) (A_cons (L_lst (A_cons L_int (A_cons L_int (A_cons L_int (A_cons L_int (A_cons L_int (A_cons L_int (A_cons L_int A_nil)))))))) A_nil)) N_nil))) (L_seq (L_set L_non) (L_seq (L_if (L_test (L_bin S_eq (Lz_lend (i := 0) (A_cons L_int A_nil)) L_int)) (L_seq (L_set (Lz_lend (i := 0) (A_cons (L_var (i := 1)) A_nil))) (L_set (L_tup (A_cons (L_var (i := 6)) (A_cons (L_bin S_add4 (L_bin S_add4 (L_var (i := 6)) L_int) (Lz_lend (i := 0) (A_cons (L_var (i := 1)) A_nil))) A_nil))))) L_next) (L_seq (L_set (Lz_lend (i := 0) (A_cons (L_lst (A_cons L_int (A_cons L_int (A_cons L_int (A_cons L_int (A_cons L_int (A_cons L_int (A_cons L_int A_nil)))))))) A_nil))) (L_ret (L_tup (A_cons (L_var (i := 4)) (A_cons (L_var (i := 5)) (A_cons (L_var (i := 3)) (A_cons (Lz_lend (i := 0) (A_cons (L_lst (A_cons L_str (A_cons L_str (A_cons L_str (A_cons L_str A_nil))))) A_nil)) (A_cons (L_var (i := 2)) A_nil)))))))))))⟩)
end
end DD
set_option Elab.async false
set_option linter.all false
set_option maxRecDepth 100000
set_option maxHeartbeats 4000000
namespace DD
open PySem PySem.Spec PyProof.Rows L2 StX ClX DL
section
variable {P : Program} {w : World} {K : PySem.W.Frag} {mg : Str → Option Value} {base : Heap} {d : Ad}
theorem ok__law_sort (T : Txt K mg d) : FnR P w K mg base CX0 1 d.f__law_sort (spD0 K 2 2 (D__law_sort (cl d))) :=
  mkDz T.F__law_sort sc__law_sort (by decide) (fun _ _ _ _ _ _ us hl => match us, hl with | [_, _], _ => rfl) (fun cdv A outer s H E hr => by
    have hu := hr.units
    have hu5 := room5 hr
    exact ⟨_, (pss_cons (ps_if (PW.pt (pw_or (pt_not (pt_val (pv 1))) (pw_or1 (pt_cmpR (op_eq2 (K := K) hu) (pe_ix (ix_3 (K := K)) (pv 0) pe_int (fun _ _ => rfl)) pe_str (nomark _))))) (pss_one (ps_ret pe_str)) pss_nil) (pss_one (ps_ret (pe_ifExp (pt_cmpR (op_eq2 (K := K) hu) (pe_ix (ix_3 (K := K)) (pv 0) pe_int (fun _ _ => rfl)) pe_str (nomark _)) pe_non pe_str)))), (L_seq (L_if (L_tor (L_tnot (L_test (L_var (i := 1)))) (L_test (L_bin S_eq (L_bin S_ix (L_var (i := 0)) L_int) L_str))) (L_ret L_str) L_next) (L_ret (L_ifE (L_test (L_bin S_eq (L_bin S_ix (L_var (i := 0)) L_int) L_str)) L_non L_str)))⟩)
theorem ok__law_painted (T : Txt K mg d) : FnR P w K mg base CX0 2 d.f__law_painted (spD0 K 3 15 (D__law_painted_2 (cl d))) :=
  mkDz T.F__law_painted sc__law_painted (by decide) (fun _ _ _ _ _ _ us hl => match us, hl with | [_, _, _], _ => rfl) (fun cdv A outer s H E hr => by
    have hu := hr.units
    have hu5 := room5 hr
    exact ⟨_, (pss_cons (ps_par (i := 3) (j := 4) rfl sc__law_painted.nd rfl rfl (by decide) rfl rfl (pa_cons (pe_ix (ix_3 (K := K)) (pv 0) pe_int (fun _ _ => rfl)) (pa_cons (pe_ix (ix_3 (K := K)) (pv 0) pe_int (fun _ _ => rfl)) pa_nil)) (by first | rfl | exact sw2 (by rfl) (by rfl) (by rfl))) (pss_cons (ps_par (i := 5) (j := 6) rfl sc__law_painted.nd rfl rfl (by decide) rfl rfl (pa_cons (pe_op (op_rep (K := K)) (pe_lst (pa_cons pe_bl pa_nil)) pe_int) (pa_cons pe_non pa_nil)) (by first | rfl | exact sw2 (by rfl) (by rfl) (by rfl))) (pss_cons (ps_for PassesOwn.never rfl (pi_seq (K := K) (pv 1)) (pg_tupK (K := K) (n := 3) rfl (pgs_cons (pg_name (i := 7) sc__law_painted.nd rfl (by first | exact Or.inl rfl | exact Or.inr rfl)) (pgs_cons (pg_name (i := 8) sc__law_painted.nd rfl (by first | exact Or.inl rfl | exact Or.inr rfl)) (pgs_cons (pg_name (i := 9) sc__law_painted.nd rfl (by first | exact Or.inl rfl | exact Or.inr rfl)) pgs_nil)))) (pss_one (ps_if (pt_cmpR (op_eq2 (K := K) hu) (pe_callR (sp := spD0 K 2 2 (D__law_sort (cl d))) (ok__law_sort T) (hr.mono (by decide)) rfl T.m__law_sort T.k__law_sort pass0 (pa_cons (pv 0) (pa_cons (pv 9) pa_nil))) (pv 2) (nomark _)) (pss_cons (ps_par (i := 13) (j := 14) rfl sc__law_painted.nd rfl rfl (by decide) rfl rfl (pa_cons (pe_op op_sub (pv 7) (pe_op op_mod (pe_callTy call_int2 rfl T.b_int (by decide +kernel) (pa_cons (pv 7) pa_nil)) (pv 3))) (pa_cons (pe_op (op_add4 (K := K)) (pv 8) (pe_op op_mod (pe_op op_sub pe_int (pv 8)) (pv 3))) pa_nil)) (by first | rfl | exact sw2 (by rfl) (by rfl) (by rfl))) (pss_cons (ps_set (i := 10) sc__law_painted.nd rfl (by first | exact Or.inl rfl | exact Or.inr rfl) (pe_and (pe_cmpR (op_eq2 (K := K) hu) (pv 2) pe_str (nomark _)) (pe_one (pe_cmpR (op_eq2 (K := K) hu) (pe_ix (ix_3 (K := K)) (pv 0) pe_int (fun _ _ => rfl)) pe_str (nomark _))))) (pss_cons (ps_set (i := 11) sc__law_painted.nd rfl (by first | exact Or.inl rfl | exact Or.inr rfl) (pv 13)) (pss_cons (ps_if (PW.pt (pw_and (pt_cmp (pc_notN (pv 6))) (pw_and1 (PW.pt (pw_or (pt_cmpR op_le (pe_op op_sub (pv 13) (pv 6)) (pv 4) (nomark _)) (pw_or1 (pt_val (pv 10)))))))) (pss_one (ps_set (i := 11) sc__law_painted.nd rfl (by first | exact Or.inl rfl | exact Or.inr rfl) (pv 6))) pss_nil) (pss_cons (ps_for PassesOwn.never rfl (pi_range2 rfl T.b_range (pa_cons (pe_callB (call_min2 rfl) (by rfl) T.b_min (by decide +kernel) (pa_cons (pe_callTy call_int2 rfl T.b_int (by decide +kernel) (pa_cons (pv 11) pa_nil)) (pa_cons (pe_callTy call_int2 rfl T.b_int (by decide +kernel) (pa_cons (pv 13) pa_nil)) pa_nil))) (pa_cons (pv 14) pa_nil))) (pg_name (i := 12) sc__law_painted.nd rfl (by first | exact Or.inl rfl | exact Or.inr rfl)) (pss_one (ps_asg pe_bl (pg_sub (pv 5) (pv 12) set_list)))) (pss_one (ps_set (i := 6) sc__law_painted.nd rfl (by first | exact Or.inl rfl | exact Or.inr rfl) (pv 14)))))))) pss_nil))) (pss_one (ps_ret (pv 5)))))), (L_seq (L_par (N_cons (L_bin S_ix (L_var (i := 0)) L_int) (N_cons (L_bin S_ix (L_var (i := 0)) L_int) N_nil))) (L_seq (L_par (N_cons (L_bin S_rep (L_lst (A_cons L_bl A_nil)) L_int) (N_cons L_non N_nil))) (L_seq (L_forS (vs := [7, 8, 9]) (L_var (i := 1)) (U_tup (Us_cons (U_name (by decide)) (Us_cons (U_name (by decide)) (Us_cons (U_name (by decide)) Us_nil)))) (L_if (L_test (L_bin S_eq (Lz_call (A_cons (L_var (i := 0)) (A_cons (L_var (i := 9)) A_nil))) (L_var (i := 2)))) (L_seq (L_par (N_cons (L_bin S_sub (L_var (i := 7)) (L_bin S_mod (L_cb C_int (A_cons (L_var (i := 7)) A_nil)) (L_var (i := 3)))) (N_cons (L_bin S_add4 (L_var (i := 8)) (L_bin S_mod (L_bin S_sub L_int (L_var (i := 8))) (L_var (i := 3)))) N_nil))) (L_seq (L_set (L_and (L_bin S_eq (L_var (i := 2)) L_str) (L_bin S_eq (L_bin S_ix (L_var (i := 0)) L_int) L_str))) (L_seq (L_set (L_var (i := 13))) (L_seq (L_if (L_tand (L_test (L_notN (L_var (i := 6)))) (L_tor (L_test (L_bin S_le (L_bin S_sub (L_var (i := 13)) (L_var (i := 6))) (L_var (i := 4)))) (L_test (L_var (i := 10))))) (L_set (L_var (i := 6))) L_next) (L_seq (L_for (vs := [12]) (I_rng2 (L_cb C_min (A_cons (L_cb C_int (A_cons (L_var (i := 11)) A_nil)) (A_cons (L_cb C_int (A_cons (L_var (i := 13)) A_nil)) A_nil))) (L_var (i := 14))) (U_name (by decide)) (L_put (i := 5) L_bl (L_var (i := 12)))) (L_set (L_var (i := 14)))))))) L_next)) (L_ret (L_var (i := 5))))))⟩)
theorem ok__law_blocks (T : Txt K mg d) : FnR P w K mg base CX0 3 d.f__law_blocks (spD0 K 3 10 (D__law_blocks (cl d))) :=
  mkDz T.F__law_blocks sc__law_blocks (by decide) (fun _ _ _ _ _ _ us hl => match us, hl with | [_, _, _], _ => rfl) (fun cdv A outer s H E hr => by
    have hu := hr.units
    have hu5 := room5 hr
    exact ⟨_, (pss_cons (ps_par3 (i := 3) (j := 4) (l := 5) rfl sc__law_blocks.nd rfl rfl rfl (by decide) (by decide) (by decide) rfl rfl rfl (pa_cons (pe_callR (sp := spD0 K 3 15 (D__law_painted_2 (cl d))) (ok__law_painted T) (hr.mono (by decide)) rfl T.m__law_painted T.k__law_painted pass0 (pa_cons (pv 0) (pa_cons (pv 1) (pa_cons (pv 2) pa_nil)))) (pa_cons (pe_lst pa_nil) (pa_cons pe_non pa_nil))) (by rfl)) (pss_cons (ps_for PassesOwn.never rfl (pi_enum2K (K := K) rfl T.b_enumerate (pa_cons (pv 3) pa_nil)) (pg_tupK (K := K) (n := 2) rfl (pgs_cons (pg_name (i := 6) sc__law_blocks.nd rfl (by first | exact Or.inl rfl | exact Or.inr rfl)) (pgs_cons (pg_name (i := 7) sc__law_blocks.nd rfl (by first | exact Or.inl rfl | exact Or.inr rfl)) pgs_nil))) (pss_cons (ps_if (PW.pt (pw_and (pt_val (pv 7)) (pw_and1 (pt_cmp (pc_isN (pv 5)))))) (pss_one (ps_set (i := 5) sc__law_blocks.nd rfl (by first | exact Or.inl rfl | exact Or.inr rfl) (pv 6))) pss_nil) (pss_one (ps_if (PW.pt (pw_and (pt_not (pt_val (pv 7))) (pw_and1 (pt_cmp (pc_notN (pv 5)))))) (pss_cons (ps_par (i := 8) (j := 9) rfl sc__law_blocks.nd rfl rfl (by decide) rfl rfl (pa_cons (pv 5) (pa_cons (pv 6) pa_nil)) (by first | rfl | exact sw2 (by rfl) (by rfl) (by rfl))) (pss_cons (ps_if (pt_cmp (pc_notN (pe_ix (ix_3 (K := K)) (pv 0) pe_int (fun _ _ => rfl)))) (pss_one (ps_par (i := 8) (j := 9) rfl sc__law_blocks.nd rfl rfl (by decide) rfl rfl (pa_cons (pe_callB (call_max2 rfl) (by rfl) T.b_max (by decide +kernel) (pa_cons (pe_callTy call_int2 rfl T.b_int (by decide +kernel) (pa_cons (pv 5) pa_nil)) (pa_cons (pe_ix (ix_3 (K := K)) (pe_ix (ix_3 (K := K)) (pv 0) pe_int (fun _ _ => rfl)) pe_int (fun _ _ => rfl)) pa_nil))) (pa_cons (pe_callB (call_min2 rfl) (by rfl) T.b_min (by decide +kernel) (pa_cons (pe_callTy call_int2 rfl T.b_int (by decide +kernel) (pa_cons (pv 6) pa_nil)) (pa_cons (pe_ix (ix_3 (K := K)) (pe_ix (ix_3 (K := K)) (pv 0) pe_int (fun _ _ => rfl)) pe_int (fun _ _ => rfl)) pa_nil))) pa_nil)) (by first | rfl | exact sw2 (by rfl) (by rfl) (by rfl)))) pss_nil) (pss_cons (ps_if (PW.pt (pw_and (pt_cmpR op_ge (pe_op op_sub (pv 6) (pv 5)) (pe_ix (ix_3 (K := K)) (pv 0) pe_int (fun _ _ => rfl)) (nomark _)) (pw_and1 (pt_cmpR (op_lt2 (K := K) hu) (pv 8) (pv 9) (nomark _))))) (pss_one (ps_expr (pe_bm PySem.F.plainAttrs_list PySem.F.slot_list_append PySem.F.type_list_append mt_append (pv 4) (pa_cons (pe_tup (pa_cons (pv 8) (pa_cons (pv 9) (pa_cons (pv 2) pa_nil)))) pa_nil)))) pss_nil) (pss_one (ps_set (i := 5) sc__law_blocks.nd rfl (by first | exact Or.inl rfl | exact Or.inr rfl) pe_non))))) pss_nil)))) (pss_one (ps_ret (pv 4))))), (L_seq (L_par3 (N_cons (Lz_call (A_cons (L_var (i := 0)) (A_cons (L_var (i := 1)) (A_cons (L_var (i := 2)) A_nil)))) (N_cons (L_lst A_nil) (N_cons L_non N_nil)))) (L_seq (L_for (vs := [6, 7]) (I_enum2 (L_var (i := 3))) (U_tup (Us_cons (U_name (by decide)) (Us_cons (U_name (by decide)) Us_nil))) (L_seq (L_if (L_tand (L_test (L_var (i := 7))) (L_test (L_isN (L_var (i := 5))))) (L_set (L_var (i := 6))) L_next) (L_if (L_tand (L_tnot (L_test (L_var (i := 7)))) (L_test (L_notN (L_var (i := 5))))) (L_seq (L_par (N_cons (L_var (i := 5)) (N_cons (L_var (i := 6)) N_nil))) (L_seq (L_if (L_test (L_notN (L_bin S_ix (L_var (i := 0)) L_int))) (L_par (N_cons (L_cb C_max (A_cons (L_cb C_int (A_cons (L_var (i := 5)) A_nil)) (A_cons (L_bin S_ix (L_bin S_ix (L_var (i := 0)) L_int) L_int) A_nil))) (N_cons (L_cb C_min (A_cons (L_cb C_int (A_cons (L_var (i := 6)) A_nil)) (A_cons (L_bin S_ix (L_bin S_ix (L_var (i := 0)) L_int) L_int) A_nil))) N_nil))) L_next) (L_seq (L_if (L_tand (L_test (L_bin S_ge (L_bin S_sub (L_var (i := 6)) (L_var (i := 5))) (L_bin S_ix (L_var (i := 0)) L_int))) (L_test (L_bin S_lt2 (L_var (i := 8)) (L_var (i := 9))))) (L_drop (L_mut (i := 4) M_append (A_cons (L_tup (A_cons (L_var (i := 8)) (A_cons (L_var (i := 9)) (A_cons (L_var (i := 2)) A_nil)))) A_nil))) L_next) (L_set L_non)))) L_next))) (L_ret (L_var (i := 4)))))⟩)
theorem ok__law_show (T : Txt K mg d) : FnR P w K mg base CX0 4 d.f__law_show (spD0 K 2 2 (D__law_show_2 (cl d))) :=
  mkDz T.F__law_show sc__law_show (by decide) (fun _ _ _ _ _ _ us hl => match us, hl with | [_, _], _ => rfl) (fun cdv A outer s H E hr => by
    have hu := hr.units
    have hu5 := room5 hr
    exact ⟨_, (pss_one (ps_ret (pe_callTy call_tuple_of rfl T.b_tuple (by decide +kernel) (pa_cons (pe_callB (cr_sortedData (K := K) hu) (by rfl) T.b_sorted (by decide +kernel) (pa_cons (pe_op (op_add4 (K := K)) (pe_callR (sp := spD0 K 3 10 (D__law_blocks (cl d))) (ok__law_blocks T) (hr.mono (by decide)) rfl T.m__law_blocks T.k__law_blocks pass0 (pa_cons (pv 0) (pa_cons (pv 1) (pa_cons pe_str pa_nil)))) (pe_callR (sp := spD0 K 3 10 (D__law_blocks (cl d))) (ok__law_blocks T) (hr.mono (by decide)) rfl T.m__law_blocks T.k__law_blocks pass0 (pa_cons (pv 0) (pa_cons (pv 1) (pa_cons pe_str pa_nil))))) pa_nil)) pa_nil)))), (L_ret (L_cb C_tuple (A_cons (L_cb C_sorted (A_cons (L_bin S_add4 (Lz_call (A_cons (L_var (i := 0)) (A_cons (L_var (i := 1)) (A_cons L_str A_nil)))) (Lz_call (A_cons (L_var (i := 0)) (A_cons (L_var (i := 1)) (A_cons L_str A_nil))))) A_nil)) A_nil)))⟩)
theorem ok__law_looks (T : Txt K mg d) : FnR P w K mg base CX0 5 d.f__law_looks (spD0 K 3 8 (D__law_looks (cl d))) :=
  mkDz T.F__law_looks sc__law_looks (by decide) (fun _ _ _ _ _ _ us hl => match us, hl with | [_, _, _], _ => rfl) (fun cdv A outer s H E hr => by
    have hu := hr.units
    have hu5 := room5 hr
    exact ⟨_, (pss_cons (ps_set (i := 3) sc__law_looks.nd rfl (by first | exact Or.inl rfl | exact Or.inr rfl) (pe_callR (sp := spD0 K 2 4 (D__law_drawn (cl d))) (ok__law_drawn T) (hr.mono (by decide)) rfl T.m__law_drawn T.k__law_drawn pass0 (pa_cons (pv 0) (pa_cons (pv 1) pa_nil)))) (pss_cons (ps_par (i := 3) (j := 5) rfl sc__law_looks.nd rfl rfl (by decide) rfl rfl (pa_cons (pe_ifExp (pt_cmp (pc_isN (pv 3))) (pe_lst pa_nil) (pv 3)) (pa_cons (pe_lst pa_nil) pa_nil)) (by first | rfl | exact sw2 (by rfl) (by rfl) (by rfl))) (pss_cons (ps_for PassesOwn.never rfl (pi_range1 rfl T.b_range (pa_cons (pv 2) pa_nil)) (pg_name (i := 4) sc__law_looks.nd rfl (by first | exact Or.inl rfl | exact Or.inr rfl)) (pss_cons (ps_set (i := 6) sc__law_looks.nd rfl (by first | exact Or.inl rfl | exact Or.inr rfl) (pe_callR (sp := spD0 K 2 7 (D__law_rule_2 (cl d))) (ok__law_rule T) (hr.mono (by decide)) rfl T.m__law_rule T.k__law_rule pass0 (pa_cons (pv 0) (pa_cons (pe_ix (ix_3 (K := K)) (pv 1) pe_int (fun _ _ => rfl)) pa_nil)))) (pss_cons (ps_set (i := 7) sc__law_looks.nd rfl (by first | exact Or.inl rfl | exact Or.inr rfl) (pe_ifExp (pt_cmpR (op_eq2 (K := K) hu) (pe_callR (sp := spD0 K 2 4 (D__law_take (cl d))) (ok__law_take T) (hr.mono (by decide)) rfl T.m__law_take T.k__law_take pass0 (pa_cons (pv 0) (pa_cons pe_int pa_nil))) pe_int (nomark _)) (pe_callR (sp := spD0 K 2 4 (D__law_drawn (cl d))) (ok__law_drawn T) (hr.mono (by decide)) rfl T.m__law_drawn T.k__law_drawn pass0 (pa_cons (pv 0) (pa_cons (pv 1) pa_nil))) pe_non)) (pss_one (ps_expr (pe_bm PySem.F.plainAttrs_list PySem.F.slot_list_append PySem.F.type_list_append mt_append (pv 5) (pa_cons (pe_tup (pa_cons (pv 6) (pa_cons (pe_callR (sp := spD0 K 2 2 (D__law_show_2 (cl d))) (ok__law_show T) (hr.mono (by decide)) rfl T.m__law_show T.k__law_show pass0 (pa_cons (pv 6) (pa_cons (pe_ifExp (pt_cmp (pc_isN (pv 7))) (pv 3) (pv 7)) pa_nil))) pa_nil))) pa_nil))))))) (pss_one (ps_ret (pv 5)))))), (L_seq (L_set (Lz_lend (i := 0) (A_cons (L_var (i := 1)) A_nil))) (L_seq (L_par (N_cons (L_ifE (L_test (L_isN (L_var (i := 3)))) (L_lst A_nil) (L_var (i := 3))) (N_cons (L_lst A_nil) N_nil))) (L_seq (L_for (vs := [4]) (I_rng1 (L_var (i := 2))) (U_name (by decide)) (L_seq (L_set (Lz_lend (i := 0) (A_cons (L_bin S_ix (L_var (i := 1)) L_int) A_nil))) (L_seq (L_set (L_ifE (L_test (L_bin S_eq (Lz_lend (i := 0) (A_cons L_int A_nil)) L_int)) (Lz_lend (i := 0) (A_cons (L_var (i := 1)) A_nil)) L_non)) (L_drop (L_mut (i := 5) M_append (A_cons (L_tup (A_cons (L_var (i := 6)) (A_cons (Lz_call (A_cons (L_var (i := 6)) (A_cons (L_ifE (L_test (L_isN (L_var (i := 7)))) (L_var (i := 3)) (L_var (i := 7))) A_nil))) A_nil))) A_nil)))))) (L_ret (L_var (i := 5))))))⟩)
theorem ok__are_hours (T : Txt K mg d) : FnR P w K mg base CX0 3 d.f__are_hours (spD0 K 1 3 (D__are_hours (cl d))) :=
  mkDz T.F__are_hours sc__are_hours (by decide) (fun _ _ _ _ _ _ us hl => match us, hl with | [_], _ => rfl) (fun cdv A outer s H E hr => by
    have hu := hr.units
    have hu5 := room5 hr
    exact ⟨_, (pss_cons (ps_if (pt_cmp (pc_isN (pv 0))) (pss_one (ps_ret pe_bl)) pss_nil) (pss_cons (ps_if (PW.pt (pw_or (pt_not (pt_val (pe_callB call_isi (by rfl) T.b_isinstance (by decide +kernel) (pa_cons (pv 0) (pa_cons (pe_bltn (v := .ty "tuple") rfl T.b_tuple (by decide +kernel) rfl) pa_nil))))) (pw_or1 (pt_cmpR (op_ne2 (K := K) hu) (pe_callB (call_len2 (K := K)) (by rfl) T.b_len PySem.boot_len (pa_cons (pv 0) pa_nil)) pe_int (nomark _))))) (pss_one (ps_ret pe_bl)) pss_nil) (pss_cons (ps_asg (pv 0) (pg_tupK (K := K) (n := 2) rfl (pgs_cons (pg_name (i := 1) sc__are_hours.nd rfl (by first | exact Or.inl rfl | exact Or.inr rfl)) (pgs_cons (pg_name (i := 2) sc__are_hours.nd rfl (by first | exact Or.inl rfl | exact Or.inr rfl)) pgs_nil)))) (pss_one (ps_ret (pe_and (pe_callR (sp := spD0 K 1 1 (D_is_number (cl d))) (ok_is_number T) (hr.mono (by decide)) rfl T.m_is_number T.k_is_number pass0 (pa_cons (pv 1) pa_nil)) (pe_and (pe_callR (sp := spD0 K 1 1 (D_is_number (cl d))) (ok_is_number T) (hr.mono (by decide)) rfl T.m_is_number T.k_is_number pass0 (pa_cons (pv 2) pa_nil)) (pe_one (pe_cmpR (op_lt2 (K := K) hu) (pv 1) (pv 2) (nomark _)))))))))), (L_seq (L_if (L_test (L_isN (L_var (i := 0)))) (L_ret L_bl) L_next) (L_seq (L_if (L_tor (L_tnot (L_test (L_isi (kit_ok T) (tyc T) (.ty "tuple") (L_var (i := 0))))) (L_test (L_bin S_ne (L_cb C_len (A_cons (L_var (i := 0)) A_nil)) L_int))) (L_ret L_bl) L_next) (L_seq (L_tgt (vs := [1, 2]) (L_var (i := 0)) (U_tup (Us_cons (U_name (by decide)) (Us_cons (U_name (by decide)) Us_nil)))) (L_ret (L_and (Lz_call (A_cons (L_var (i := 1)) A_nil)) (L_and (Lz_call (A_cons (L_var (i := 2)) A_nil)) (L_bin S_lt2 (L_var (i := 1)) (L_var (i := 2)))))))))⟩)
theorem ok_wrong_argument_rules (T : Txt K mg d) : FnR P w K mg base CX0 4 d.f_wrong_argument_rules (spD0 K 5 5 (D__wrong_argument (cl d))) :=
  mkDz T.F_wrong_argument_rules sc_wrong_argument_rules (by decide) (fun _ _ _ _ _ _ us hl => match us, hl with | [_, _, _, _, _], _ => rfl) (fun cdv A outer s H E hr => by
    have hu := hr.units
    have hu5 := room5 hr
    exact ⟨_, (pss_cons (ps_if (pt_not (pt_val (pe_callR (sp := spD0 K 1 1 (D_is_positive (cl d))) (ok_is_positive T) (hr.mono (by decide)) rfl T.m_is_positive T.k_is_positive pass0 (pa_cons (pv 0) pa_nil)))) (pss_one (ps_ret pe_str)) pss_nil) (pss_cons (ps_if (pt_not (pt_val (pe_callR (sp := spD0 K 1 1 (D_is_number (cl d))) (ok_is_number T) (hr.mono (by decide)) rfl T.m_is_number T.k_is_number pass0 (pa_cons (pv 1) pa_nil)))) (pss_one (ps_ret pe_str)) pss_nil) (pss_cons (ps_if (pt_not (pt_val (pe_callR (sp := spD0 K 1 1 (D_is_number (cl d))) (ok_is_number T) (hr.mono (by decide)) rfl T.m_is_number T.k_is_number pass0 (pa_cons (pv 2) pa_nil)))) (pss_one (ps_ret pe_str)) pss_nil) (pss_cons (ps_if (pt_cmpR (op_notIn2 (K := K) hu5) (pv 3) (pe_glob (v := .ref d.c_PRIVATE_WORDS) rfl T.m_PRIVATE_WORDS rfl) rfl) (pss_one (ps_ret pe_str)) pss_nil) (pss_cons (ps_if (pt_not (pt_val (pe_callR (sp := spD0 K 1 3 (D__are_hours (cl d))) (ok__are_hours T) (hr.mono (by decide)) rfl T.m__are_hours T.k__are_hours pass0 (pa_cons (pv 4) pa_nil)))) (pss_one (ps_ret pe_str)) pss_nil) (pss_one (ps_ret pe_non))))))), (L_seq (L_if (L_tnot (L_test (Lz_call (A_cons (L_var (i := 0)) A_nil)))) (L_ret L_str) L_next) (L_seq (L_if (L_tnot (L_test (Lz_call (A_cons (L_var (i := 1)) A_nil)))) (L_ret L_str) L_next) (L_seq (L_if (L_tnot (L_test (Lz_call (A_cons (L_var (i := 2)) A_nil)))) (L_ret L_str) L_next) (L_seq (L_if (L_test (L_bin S_notIn (L_var (i := 3)) (L_c (rp_PRIVATE_WORDS T)))) (L_ret L_str) L_next) (L_seq (L_if (L_tnot (L_test (Lz_call (A_cons (L_var (i := 4)) A_nil)))) (L_ret L_str) L_next) (L_ret L_non))))))⟩)
theorem body_Rule___init__ (T : Txt K mg d) (cdv : Value) (A : Around) (outer : List Env) (s : Shared) (H : Hp) (E : XK) (hr : Room 4 (A.deeper (envOfC "Rule.__init__" (defScope s_Rule___init__) s.heap.objs.size d.f_Rule___init__ cdv))) :
    ∃ t, PSs (cxOf CX0 P w K mg base ["self", "step", "gap", "least", "private", "hours", "wrong"] "Rule.__init__" (defScope s_Rule___init__) d.f_Rule___init__ cdv A outer s H E).nox (defBody s_Rule___init__) t ∧ LS K E0 t (D_Rule___init__ (cl d)) := by
    have hu := hr.units
    have hu5 := room5 hr
    exact ⟨_, (pss_cons (ps_set (i := 6) sc_Rule___init__.nd rfl (by first | exact Or.inl rfl | exact Or.inr rfl) (pe_callR (sp := spD0 K 5 5 (D__wrong_argument (cl d))) (ok_wrong_argument_rules T) (hr.mono (by decide)) rfl T.m_wrong_argument_rules T.k_wrong_argument_rules pass0 (pa_cons (pv 1) (pa_cons (pv 2) (pa_cons (pv 3) (pa_cons (pv 4) (pa_cons (pv 5) pa_nil))))))) (pss_cons (ps_if (pt_cmp (pc_notN (pv 6))) (pss_one ps_dead) pss_nil) (pss_cons (ps_fld (pv 0) (pv 1) rfl) (pss_cons (ps_fld (pv 0) (pv 2) rfl) (pss_cons (ps_fld (pv 0) (pv 3) rfl) (pss_cons (ps_fld (pv 0) (pv 4) rfl) (pss_one (ps_fld (pv 0) (pv 5) rfl)))))))), (L_seq (L_set (Lz_call (A_cons (L_var (i := 1)) (A_cons (L_var (i := 2)) (A_cons (L_var (i := 3)) (A_cons (L_var (i := 4)) (A_cons (L_var (i := 5)) A_nil))))))) (L_seq (L_if (L_test (L_notN (L_var (i := 6)))) L_dead L_next) (L_seq (L_sfld (i := 0) (fs_Rule_step T) (L_var (i := 1))) (L_seq (L_sfld (i := 0) (fs_Rule_gap T) (L_var (i := 2))) (L_seq (L_sfld (i := 0) (fs_Rule_least T) (L_var (i := 3))) (L_seq (L_sfld (i := 0) (fs_Rule_private T) (L_var (i := 4))) (L_sfld (i := 0) (fs_Rule_hours T) (L_var (i := 5)))))))))⟩
theorem ok_Rule_init5 (T : Txt K mg d) : FnR P w K mg base CX0 5 d.f_Rule___init__ (spD0 K 6 7 (fun ρ => D_Rule___init__ (cl d) (fillD 6 [] ρ))) :=
  mkDD (T := D_Rule___init__ (cl d)) (N := ["self", "step", "gap", "least", "private", "hours", "wrong"]) (dd := []) 6 5 T.F_Rule___init__ (by simp [dv_Rule]) rfl sc_Rule___init__ (by decide) (fun G => RepA.nil)
    (fun _ _ _ _ _ _ _ us its h1 h2 => match us, its, h1, h2 with | [_, _, _, _, _, _], [_, _, _, _, _], _, _ => ⟨_, rfl, rfl⟩)
    (fun cdv A outer s H E hr => let ⟨t, h1, h2⟩ := body_Rule___init__ T cdv A outer s H E hr; ⟨t, h1.nox, h2⟩)
end
end DD
set_option Elab.async false
set_option linter.all false
set_option maxRecDepth 100000
set_option maxHeartbeats 4000000
namespace DD
open PySem PySem.Spec PyProof.Rows L2 StX ClX DL
section
variable {P : Program} {w : World} {K : PySem.W.Frag} {mg : Str → Option Value} {base : Heap} {d : Ad}
theorem ok__law_rule_of (T : Txt K mg d) : FnR P w K mg base CX0 7 d.f__law_rule_of (spD0 K 1 1 (D__law_made_rule (cl d))) :=
  mkDz T.F__law_rule_of sc__law_rule_of (by decide) (fun _ _ _ _ _ _ us hl => match us, hl with | [_], _ => rfl) (fun cdv A outer s H E hr => by
    have hu := hr.units
    have hu5 := room5 hr
    exact ⟨_, (pss_one (ps_ret (pe_makeR (sp := spD0 K 6 7 (fun ρ => D_Rule___init__ (cl d) (fillD 6 [] ρ))) T.mk_Rule (ok_Rule_init5 T) (hr.mono (by decide)) rfl T.m_Rule pass0 (pa_cons (pe_ix (ix_3 (K := K)) (pv 0) pe_int (fun _ _ => rfl)) (pa_cons (pe_ix (ix_3 (K := K)) (pv 0) pe_int (fun _ _ => rfl)) (pa_cons (pe_ix (ix_3 (K := K)) (pv 0) pe_int (fun _ _ => rfl)) (pa_cons (pe_ix (ix_3 (K := K)) (pv 0) pe_int (fun _ _ => rfl)) (pa_cons (pe_ix (ix_3 (K := K)) (pv 0) pe_int (fun _ _ => rfl)) pa_nil)))))))), (L_ret (Lz_make (A_cons (L_bin S_ix (L_var (i := 0)) L_int) (A_cons (L_bin S_ix (L_var (i := 0)) L_int) (A_cons (L_bin S_ix (L_var (i := 0)) L_int) (A_cons (L_bin S_ix (L_var (i := 0)) L_int) (A_cons (L_bin S_ix (L_var (i := 0)) L_int) A_nil)))))))⟩)
theorem ok__law_looks_of (T : Txt K mg d) : FnR P w K mg base CX0 8 d.f__law_looks_of (spD0 K 1 3 (D__law_looks_of (cl d))) :=
  mkDz T.F__law_looks_of sc__law_looks_of (by decide) (fun _ _ _ _ _ _ us hl => match us, hl with | [_], _ => rfl) (fun cdv A outer s H E hr => by
    have hu := hr.units
    have hu5 := room5 hr
    exact ⟨_, (pss_one (ps_ret (pe_lc (own := [("_law_rule_here", 1), ("_law_view", 2)]) rfl sc__law_looks_of.nd (pi_seq (K := K) (pv 0)) (blkOk_by (N := ["_law_looks_here", "_law_rule_here", "_law_view"]) (sc := defScope s__law_looks_of) (by decide +kernel)) (fun _ _ _ _ _ => (pg_tupK (K := K) (n := 2) rfl (pgs_cons (pg_name (i := 1) sc__law_looks_of.nd rfl (by first | exact Or.inl rfl | exact Or.inr rfl)) (pgs_cons (pg_name (i := 2) sc__law_looks_of.nd rfl (by first | exact Or.inl rfl | exact Or.inr rfl)) pgs_nil)))) (fun _ _ _ _ _ => pts_nil) (fun _ _ _ _ _ => (pe_tup (pa_cons (pe_callR (sp := spD0 K 1 1 (D__law_made_rule (cl d))) (ok__law_rule_of T) (hr.mono (by decide)) rfl T.m__law_rule_of T.k__law_rule_of pass0 (pa_cons (pv 1) pa_nil)) (pa_cons (pv 2) pa_nil))))))), (L_ret (L_lcS (Et := E0) (Ea := E0) (L_var (i := 0)) (U_tup (Us_cons (U_name (by decide)) (Us_cons (U_name (by decide)) Us_nil))) L_yes (L_tup (A_cons (Lz_call (A_cons (L_var (i := 1)) A_nil)) (A_cons (L_var (i := 2)) A_nil)))))⟩)
theorem ok__law_is_row (T : Txt K mg d) : FnR P w K mg base CX0 1 d.f__law_is_row (spD0 K 2 8 (D__law_is_row (cl d))) :=
  mkDz T.F__law_is_row sc__law_is_row (by decide) (fun _ _ _ _ _ _ us hl => match us, hl with | [_, _], _ => rfl) (fun cdv A outer s H E hr => by
    have hu := hr.units
    have hu5 := room5 hr
    exact ⟨_, (pss_cons (ps_asg (pe_tup (pa_cons pe_int (pa_cons pe_int pa_nil))) (pg_tupK (K := K) (n := 2) rfl (pgs_cons (pg_name (i := 2) sc__law_is_row.nd rfl (by first | exact Or.inl rfl | exact Or.inr rfl)) (pgs_cons (pg_name (i := 3) sc__law_is_row.nd rfl (by first | exact Or.inl rfl | exact Or.inr rfl)) pgs_nil)))) (pss_cons (ps_for PassesOwn.never rfl (pi_enum2K (K := K) rfl T.b_enumerate (pa_cons (pv 1) pa_nil)) (pg_tupK (K := K) (n := 2) rfl (pgs_cons (pg_name (i := 4) sc__law_is_row.nd rfl (by first | exact Or.inl rfl | exact Or.inr rfl)) (pgs_cons (pg_name (i := 5) sc__law_is_row.nd rfl (by first | exact Or.inl rfl | exact Or.inr rfl)) pgs_nil))) (pss_cons (ps_for PassesOwn.never rfl (pi_seq (K := K) (pe_ix (ix_3 (K := K)) (pv 0) pe_int (fun _ _ => rfl))) (pg_tupK (K := K) (n := 2) rfl (pgs_cons (pg_name (i := 6) sc__law_is_row.nd rfl (by first | exact Or.inl rfl | exact Or.inr rfl)) (pgs_cons (pg_name (i := 7) sc__law_is_row.nd rfl (by first | exact Or.inl rfl | exact Or.inr rfl)) pgs_nil))) (pss_one (ps_if (PW.pt (pw_and (pt_cmpR (op_eq2 (K := K) hu) (pv 6) (pv 4) (nomark _)) (pw_and1 (pt_cmpR (op_eq2 (K := K) hu) (pv 7) (pe_cmpR (op_eq2 (K := K) hu) (pv 5) pe_str (nomark _)) (nomark _))))) (pss_one (ps_ret pe_bl)) pss_nil))) (pss_cons (ps_if (PW.pt (pw_or (PW.pt (pw_and (pt_cmpR (op_eq2 (K := K) hu) (pv 5) pe_str (nomark _)) (pw_and1 (pt_cmpR (op_eq2 (K := K) hu) (pv 2) pe_int (nomark _))))) (pw_or1 (PW.pt (pw_and (pt_cmpR (op_ne2 (K := K) hu) (pv 5) pe_str (nomark _)) (pw_and1 (pt_chain (op_lt2 (K := K) hu) (op_lt2 (K := K) hu) pe_int (pv 2) (pe_ix (ix_3 (K := K)) (pv 0) pe_int (fun _ _ => rfl))))))))) (pss_one (ps_ret pe_bl)) pss_nil) (pss_cons (ps_if (PW.pt (pw_and (pt_cmpR (op_eq2 (K := K) hu) (pv 5) pe_str (nomark _)) (pw_and1 (pt_not (pt_val (pe_ix (ix_3 (K := K)) (pv 0) pe_int (fun _ _ => rfl))))))) (pss_one (ps_ret pe_bl)) pss_nil) (pss_cons (ps_set (i := 3) sc__law_is_row.nd rfl (by first | exact Or.inl rfl | exact Or.inr rfl) (pe_op (op_add4 (K := K)) (pv 3) (pe_callTy call_int2 rfl T.b_int (by decide +kernel) (pa_cons (pe_cmpR (op_in2 (K := K) hu5) (pv 5) (pe_tup (pa_cons pe_str (pa_cons pe_str pa_nil))) rfl) pa_nil)))) (pss_one (ps_set (i := 2) sc__law_is_row.nd rfl (by first | exact Or.inl rfl | exact Or.inr rfl) (pe_ifExp (pt_cmpR (op_eq2 (K := K) hu) (pv 5) pe_str (nomark _)) pe_int (pe_ifExp (pt_cmpR (op_eq2 (K := K) hu) (pv 5) pe_str (nomark _)) (pe_op (op_add4 (K := K)) (pv 2) pe_int) pe_int))))))))) (pss_one (ps_ret (pe_or (pe_cmp (pc_isN (pe_ix (ix_3 (K := K)) (pv 0) pe_int (fun _ _ => rfl)))) (pe_one (pe_cmpR op_le (pv 3) (pe_ix (ix_3 (K := K)) (pv 0) pe_int (fun _ _ => rfl)) (nomark _)))))))), (L_seq (L_tupN (is := [2, 3]) (N_cons L_int (N_cons L_int N_nil)) rfl (by decide)) (L_seq (L_for (vs := [4, 5]) (I_enum2 (L_var (i := 1))) (U_tup (Us_cons (U_name (by decide)) (Us_cons (U_name (by decide)) Us_nil))) (L_seq (L_forS (vs := [6, 7]) (L_bin S_ix (L_var (i := 0)) L_int) (U_tup (Us_cons (U_name (by decide)) (Us_cons (U_name (by decide)) Us_nil))) (L_if (L_tand (L_test (L_bin S_eq (L_var (i := 6)) (L_var (i := 4)))) (L_test (L_bin S_eq (L_var (i := 7)) (L_bin S_eq (L_var (i := 5)) L_str)))) (L_ret L_bl) L_next)) (L_seq (L_if (L_tor (L_tand (L_test (L_bin S_eq (L_var (i := 5)) L_str)) (L_test (L_bin S_eq (L_var (i := 2)) L_int))) (L_tand (L_test (L_bin S_ne (L_var (i := 5)) L_str)) (L_test (L_chain S_lt2 S_lt2 L_int (L_var (i := 2)) (L_bin S_ix (L_var (i := 0)) L_int))))) (L_ret L_bl) L_next) (L_seq (L_if (L_tand (L_test (L_bin S_eq (L_var (i := 5)) L_str)) (L_tnot (L_test (L_bin S_ix (L_var (i := 0)) L_int)))) (L_ret L_bl) L_next) (L_seq (L_set (L_bin S_add4 (L_var (i := 3)) (L_cb C_int (A_cons (L_bin S_in (L_var (i := 5)) (L_tup (A_cons L_str (A_cons L_str A_nil)))) A_nil)))) (L_set (L_ifE (L_test (L_bin S_eq (L_var (i := 5)) L_str)) L_int (L_ifE (L_test (L_bin S_eq (L_var (i := 5)) L_str)) (L_bin S_add4 (L_var (i := 2)) L_int) L_int)))))))) (L_ret (L_or (L_isN (L_bin S_ix (L_var (i := 0)) L_int)) (L_bin S_le (L_var (i := 3)) (L_bin S_ix (L_var (i := 0)) L_int))))))⟩)
theorem ok__law_runs (T : Txt K mg d) : FnR P w K mg base CX0 3 d.f__law_runs (spD0 K 3 8 (D__law_runs_2 (cl d))) :=
  mkDz T.F__law_runs sc__law_runs (by decide) (fun _ _ _ _ _ _ us hl => match us, hl with | [_, _, _], _ => rfl) (fun cdv A outer s H E hr => by
    have hu := hr.units
    have hu5 := room5 hr
    exact ⟨_, (pss_cons (ps_par3 (i := 3) (j := 4) (l := 5) rfl sc__law_runs.nd rfl rfl rfl (by decide) (by decide) (by decide) rfl rfl rfl (pa_cons (pe_callR (sp := spD0 K 3 15 (D__law_painted_2 (cl d))) (ok__law_painted T) (hr.mono (by decide)) rfl T.m__law_painted T.k__law_painted pass0 (pa_cons (pv 0) (pa_cons (pv 1) (pa_cons (pv 2) pa_nil)))) (pa_cons (pe_lst pa_nil) (pa_cons pe_non pa_nil))) (by rfl)) (pss_cons (ps_for PassesOwn.never rfl (pi_enum2K (K := K) rfl T.b_enumerate (pa_cons (pv 3) pa_nil)) (pg_tupK (K := K) (n := 2) rfl (pgs_cons (pg_name (i := 6) sc__law_runs.nd rfl (by first | exact Or.inl rfl | exact Or.inr rfl)) (pgs_cons (pg_name (i := 7) sc__law_runs.nd rfl (by first | exact Or.inl rfl | exact Or.inr rfl)) pgs_nil))) (pss_cons (ps_if (PW.pt (pw_and (pt_val (pv 7)) (pw_and1 (pt_cmp (pc_isN (pv 5)))))) (pss_one (ps_set (i := 5) sc__law_runs.nd rfl (by first | exact Or.inl rfl | exact Or.inr rfl) (pv 6))) pss_nil) (pss_one (ps_if (PW.pt (pw_and (pt_not (pt_val (pv 7))) (pw_and1 (pt_cmp (pc_notN (pv 5)))))) (pss_cons (ps_expr (pe_bm PySem.F.plainAttrs_list PySem.F.slot_list_append PySem.F.type_list_append mt_append (pv 4) (pa_cons (pe_tup (pa_cons (pv 5) (pa_cons (pv 6) pa_nil))) pa_nil))) (pss_one (ps_set (i := 5) sc__law_runs.nd rfl (by first | exact Or.inl rfl | exact Or.inr rfl) pe_non))) pss_nil)))) (pss_one (ps_ret (pv 4))))), (L_seq (L_par3 (N_cons (Lz_call (A_cons (L_var (i := 0)) (A_cons (L_var (i := 1)) (A_cons (L_var (i := 2)) A_nil)))) (N_cons (L_lst A_nil) (N_cons L_non N_nil)))) (L_seq (L_for (vs := [6, 7]) (I_enum2 (L_var (i := 3))) (U_tup (Us_cons (U_name (by decide)) (Us_cons (U_name (by decide)) Us_nil))) (L_seq (L_if (L_tand (L_test (L_var (i := 7))) (L_test (L_isN (L_var (i := 5))))) (L_set (L_var (i := 6))) L_next) (L_if (L_tand (L_tnot (L_test (L_var (i := 7)))) (L_test (L_notN (L_var (i := 5))))) (L_seq (L_drop (L_mut (i := 4) M_append (A_cons (L_tup (A_cons (L_var (i := 5)) (A_cons (L_var (i := 6)) A_nil))) A_nil))) (L_set L_non)) L_next))) (L_ret (L_var (i := 4)))))⟩)
theorem ok__law_part (T : Txt K mg d) : FnR P w K mg base CX0 4 d.f__law_part (spD0 K 4 10 (D__law_part (cl d))) :=
  mkDz T.F__law_part sc__law_part (by decide) (fun _ _ _ _ _ _ us hl => match us, hl with | [_, _, _, _], _ => rfl) (fun cdv A outer s H E hr => by
    have hu := hr.units
    have hu5 := room5 hr
    exact ⟨_, (pss_cons (ps_par (i := 4) (j := 5) rfl sc__law_part.nd rfl rfl (by decide) rfl rfl (pa_cons (pe_callR (sp := spD0 K 3 8 (D__law_runs_2 (cl d))) (ok__law_runs T) (hr.mono (by decide)) rfl T.m__law_runs T.k__law_runs pass0 (pa_cons (pv 0) (pa_cons (pv 2) (pa_cons (pv 3) pa_nil)))) (pa_cons (pe_lst pa_nil) pa_nil)) (by first | rfl | exact sw2 (by rfl) (by rfl) (by rfl))) (pss_cons (ps_for PassesOwn.never rfl (pi_seq (K := K) (pe_slice (sl_3 (K := K)) (pv 4) po_none (po_some (pe_un un_neg pe_int)))) (pg_tupK (K := K) (n := 2) rfl (pgs_cons (pg_name (i := 6) sc__law_part.nd rfl (by first | exact Or.inl rfl | exact Or.inr rfl)) (pgs_cons (pg_name (i := 7) sc__law_part.nd rfl (by first | exact Or.inl rfl | exact Or.inr rfl)) pgs_nil))) (pss_one (ps_if (pt_cmpR op_ge (pe_op op_sub (pv 7) (pv 6)) (pe_ix (ix_3 (K := K)) (pv 0) pe_int (fun _ _ => rfl)) (nomark _)) (pss_cons (ps_set (i := 8) sc__law_part.nd rfl (by first | exact Or.inl rfl | exact Or.inr rfl) (pe_tup (pa_cons (pv 6) (pa_cons (pv 7) pa_nil)))) (pss_cons (ps_if (pt_cmp (pc_notN (pe_ix (ix_3 (K := K)) (pv 0) pe_int (fun _ _ => rfl)))) (pss_one (ps_set (i := 8) sc__law_part.nd rfl (by first | exact Or.inl rfl | exact Or.inr rfl) (pe_tup (pa_cons (pe_callB (call_max2 rfl) (by rfl) T.b_max (by decide +kernel) (pa_cons (pe_callTy call_int2 rfl T.b_int (by decide +kernel) (pa_cons (pv 6) pa_nil)) (pa_cons (pe_ix (ix_3 (K := K)) (pe_ix (ix_3 (K := K)) (pv 0) pe_int (fun _ _ => rfl)) pe_int (fun _ _ => rfl)) pa_nil))) (pa_cons (pe_callB (call_min2 rfl) (by rfl) T.b_min (by decide +kernel) (pa_cons (pe_callTy call_int2 rfl T.b_int (by decide +kernel) (pa_cons (pv 7) pa_nil)) (pa_cons (pe_ix (ix_3 (K := K)) (pe_ix (ix_3 (K := K)) (pv 0) pe_int (fun _ _ => rfl)) pe_int (fun _ _ => rfl)) pa_nil))) pa_nil))))) pss_nil) (pss_one (ps_expr (pe_bm PySem.F.plainAttrs_list PySem.F.slot_list_extend PySem.F.type_list_extend mt_extend (pv 5) (pa_cons (pe_ifExp (pt_cmpR (op_lt2 (K := K) hu) (pe_ix (ix_3 (K := K)) (pv 8) pe_int (fun _ _ => rfl)) (pe_ix (ix_3 (K := K)) (pv 8) pe_int (fun _ _ => rfl)) (nomark _)) (pe_lst (pa_cons (pv 8) pa_nil)) (pe_lst pa_nil)) pa_nil)))))) pss_nil))) (pss_cons (ps_if (pt_cmpR (op_ne2 (K := K) hu) (pv 5) (pe_slice (sl_3 (K := K)) (pe_lc (own := [("_law_block", 9)]) rfl sc__law_part.nd (pi_seq (K := K) (pv 1)) (blkOk_by (N := ["_law_rule_here", "_law_view", "_law_meetings_here", "_law_word", "_law_runs_here", "_law_behind", "_law_low", "_law_high", "_law_pair", "_law_block"]) (sc := defScope s__law_part) (by decide +kernel)) (fun _ _ _ _ _ => (pg_name (i := 9) sc__law_part.nd rfl (by first | exact Or.inl rfl | exact Or.inr rfl))) (fun _ _ _ _ _ => (pts_one (pt_cmpR (op_eq2 (K := K) hu) (pe_ix (ix_3 (K := K)) (pv 9) pe_int (fun _ _ => rfl)) (pv 3) (nomark _)))) (fun _ _ _ _ _ => (pe_slice (sl_3 (K := K)) (pv 9) po_none (po_some pe_int)))) po_none (po_some (pe_callB (call_len2 (K := K)) (by rfl) T.b_len PySem.boot_len (pa_cons (pv 5) pa_nil)))) (nomark _)) (pss_one (ps_ret pe_non)) pss_nil) (pss_one (ps_ret (pe_tup (pa_cons (pe_callB (call_len2 (K := K)) (by rfl) T.b_len PySem.boot_len (pa_cons (pv 5) pa_nil)) (pa_cons (pe_ifExp (pt_cmpR (op_ne2 (K := K) hu) (pv 4) (pe_lst pa_nil) (nomark _)) (pe_ix (ix_3 (K := K)) (pv 4) (pe_un un_neg pe_int) (fun _ _ => rfl)) pe_non) pa_nil)))))))), (L_seq (L_par (N_cons (Lz_call (A_cons (L_var (i := 0)) (A_cons (L_var (i := 2)) (A_cons (L_var (i := 3)) A_nil)))) (N_cons (L_lst A_nil) N_nil))) (L_seq (L_forS (vs := [6, 7]) (L_sl (L_var (i := 4)) O_none (O_some (L_neg L_int))) (U_tup (Us_cons (U_name (by decide)) (Us_cons (U_name (by decide)) Us_nil))) (L_if (L_test (L_bin S_ge (L_bin S_sub (L_var (i := 7)) (L_var (i := 6))) (L_bin S_ix (L_var (i := 0)) L_int))) (L_seq (L_set (L_tup (A_cons (L_var (i := 6)) (A_cons (L_var (i := 7)) A_nil)))) (L_seq (L_if (L_test (L_notN (L_bin S_ix (L_var (i := 0)) L_int))) (L_set (L_tup (A_cons (L_cb C_max (A_cons (L_cb C_int (A_cons (L_var (i := 6)) A_nil)) (A_cons (L_bin S_ix (L_bin S_ix (L_var (i := 0)) L_int) L_int) A_nil))) (A_cons (L_cb C_min (A_cons (L_cb C_int (A_cons (L_var (i := 7)) A_nil)) (A_cons (L_bin S_ix (L_bin S_ix (L_var (i := 0)) L_int) L_int) A_nil))) A_nil)))) L_next) (L_drop (L_mut (i := 5) M_extend (A_cons (L_ifE (L_test (L_bin S_lt2 (L_bin S_ix (L_var (i := 8)) L_int) (L_bin S_ix (L_var (i := 8)) L_int))) (L_lst (A_cons (L_var (i := 8)) A_nil)) (L_lst A_nil)) A_nil))))) L_next)) (L_seq (L_if (L_test (L_bin S_ne (L_var (i := 5)) (L_sl (L_lcS (Et := E0) (Ea := E0) (L_var (i := 1)) (U_name (by decide)) (L_test (L_bin S_eq (L_bin S_ix (L_var (i := 9)) L_int) (L_var (i := 3)))) (L_sl (L_var (i := 9)) O_none (O_some L_int))) O_none (O_some (L_cb C_len (A_cons (L_var (i := 5)) A_nil)))))) (L_ret L_non) L_next) (L_ret (L_tup (A_cons (L_cb C_len (A_cons (L_var (i := 5)) A_nil)) (A_cons (L_ifE (L_test (L_bin S_ne (L_var (i := 4)) (L_lst A_nil))) (L_bin S_ix (L_var (i := 4)) (L_neg L_int)) L_non) A_nil)))))))⟩)
theorem ok__law_read (T : Txt K mg d) : FnR P w K mg base CX0 1 d.f__law_read (spD0 K 1 6 (D__law_read (cl d))) :=
  mkDz T.F__law_read sc__law_read (by decide) (fun _ _ _ _ _ _ us hl => match us, hl with | [_], _ => rfl) (fun cdv A outer s H E hr => by
    have hu := hr.units
    have hu5 := room5 hr
    exact ⟨_, (pss_cons (ps_par3 (i := 1) (j := 2) (l := 3) rfl sc__law_read.nd rfl rfl rfl (by decide) (by decide) (by decide) rfl rfl rfl (pa_cons (pe_lst pa_nil) (pa_cons pe_non (pa_cons pe_str pa_nil))) (by rfl)) (pss_cons (ps_for PassesOwn.never rfl (pi_enum2K (K := K) rfl T.b_enumerate (pa_cons (pe_op (op_add4 (K := K)) (pv 0) (pe_lst (pa_cons pe_str pa_nil))) pa_nil)) (pg_tupK (K := K) (n := 2) rfl (pgs_cons (pg_name (i := 4) sc__law_read.nd rfl (by first | exact Or.inl rfl | exact Or.inr rfl)) (pgs_cons (pg_name (i := 5) sc__law_read.nd rfl (by first | exact Or.inl rfl | exact Or.inr rfl)) pgs_nil))) (pss_one (ps_if (pt_cmpR (op_ne2 (K := K) hu) (pv 5) pe_str (nomark _)) (pss_cons (ps_expr (pe_bm PySem.F.plainAttrs_list PySem.F.slot_list_extend PySem.F.type_list_extend mt_extend (pv 1) (pa_cons (pe_ifExp (pt_cmp (pc_notN (pv 2))) (pe_lst (pa_cons (pe_tup (pa_cons (pv 2) (pa_cons (pv 4) (pa_cons (pe_cmpR (op_eq2 (K := K) hu) (pv 3) pe_str (nomark _)) pa_nil)))) pa_nil)) (pe_lst pa_nil)) pa_nil))) (pss_one (ps_asg (pe_ifExp (pt_cmpR (op_eq2 (K := K) hu) (pv 5) pe_str (nomark _)) (pe_tup (pa_cons pe_non (pa_cons pe_str pa_nil))) (pe_tup (pa_cons (pv 4) (pa_cons (pv 5) pa_nil)))) (pg_tupK (K := K) (n := 2) rfl (pgs_cons (pg_name (i := 2) sc__law_read.nd rfl (by first | exact Or.inl rfl | exact Or.inr rfl)) (pgs_cons (pg_name (i := 3) sc__law_read.nd rfl (by first | exact Or.inl rfl | exact Or.inr rfl)) pgs_nil)))))) pss_nil))) (pss_one (ps_ret (pv 1))))), (L_seq (L_par3 (N_cons (L_lst A_nil) (N_cons L_non (N_cons L_str N_nil)))) (L_seq (L_for (vs := [4, 5]) (I_enum2 (L_bin S_add4 (L_var (i := 0)) (L_lst (A_cons L_str A_nil)))) (U_tup (Us_cons (U_name (by decide)) (Us_cons (U_name (by decide)) Us_nil))) (L_if (L_test (L_bin S_ne (L_var (i := 5)) L_str)) (L_seq (L_drop (L_mut (i := 1) M_extend (A_cons (L_ifE (L_test (L_notN (L_var (i := 2)))) (L_lst (A_cons (L_tup (A_cons (L_var (i := 2)) (A_cons (L_var (i := 4)) (A_cons (L_bin S_eq (L_var (i := 3)) L_str) A_nil)))) A_nil)) (L_lst A_nil)) A_nil))) (L_tgt (vs := [2, 3]) (L_ifE (L_test (L_bin S_eq (L_var (i := 5)) L_str)) (L_tup (A_cons L_non (A_cons L_str A_nil))) (L_tup (A_cons (L_var (i := 4)) (A_cons (L_var (i := 5)) A_nil)))) (U_tup (Us_cons (U_name (by decide)) (Us_cons (U_name (by decide)) Us_nil))))) L_next)) (L_ret (L_var (i := 1)))))⟩)
theorem ok__law_standing (T : Txt K mg d) : FnR P w K mg base CX0 5 d.f__law_standing (spD0 K 3 13 (D__law_standing (cl d))) :=
  mkDz T.F__law_standing sc__law_standing (by decide) (fun _ _ _ _ _ _ us hl => match us, hl with | [_, _, _], _ => rfl) (fun cdv A outer s H E hr => by
    have hu := hr.units
    have hu5 := room5 hr
    exact ⟨_, (pss_cons (ps_if (pt_not (pt_val (pe_callR (sp := spD0 K 2 8 (D__law_is_row (cl d))) (ok__law_is_row T) (hr.mono (by decide)) rfl T.m__law_is_row T.k__law_is_row pass0 (pa_cons (pv 0) (pa_cons (pv 2) pa_nil))))) (pss_one (ps_ret pe_non)) pss_nil) (pss_cons (ps_asg (pe_tup (pa_cons (pe_callR (sp := spD0 K 1 6 (D__law_read (cl d))) (ok__law_read T) (hr.mono (by decide)) rfl T.m__law_read T.k__law_read pass0 (pa_cons (pv 2) pa_nil)) (pa_cons (pe_lst pa_nil) pa_nil))) (pg_tupK (K := K) (n := 2) rfl (pgs_cons (pg_name (i := 7) sc__law_standing.nd rfl (by first | exact Or.inl rfl | exact Or.inr rfl)) (pgs_cons (pg_name (i := 8) sc__law_standing.nd rfl (by first | exact Or.inl rfl | exact Or.inr rfl)) pgs_nil)))) (pss_cons (ps_for PassesOwn.never rfl (pi_seq (K := K) (pv 1)) (pg_tupK (K := K) (n := 2) rfl (pgs_cons (pg_name (i := 9) sc__law_standing.nd rfl (by first | exact Or.inl rfl | exact Or.inr rfl)) (pgs_cons (pg_name (i := 10) sc__law_standing.nd rfl (by first | exact Or.inl rfl | exact Or.inr rfl)) pgs_nil))) (pss_cons (ps_set (i := 11) sc__law_standing.nd rfl (by first | exact Or.inl rfl | exact Or.inr rfl) (pe_callTy call_tuple_of rfl T.b_tuple (by decide +kernel) (pa_cons (pe_lc (own := [("_law_word", 12)]) rfl sc__law_standing.nd (pi_seq (K := K) (pe_tup (pa_cons pe_str (pa_cons pe_str pa_nil)))) (blkOk_by (N := ["_law_ground_here", "_law_looks_here", "_law_letters", "_law_is_going", "_law_sort_here", "_law_run", "_law_many", "_law_meetings_here", "_law_making", "_law_rule_here", "_law_view", "_law_parts", "_law_word"]) (sc := defScope s__law_standing) (by decide +kernel)) (fun _ _ _ _ _ => (pg_name (i := 12) sc__law_standing.nd rfl (by first | exact Or.inl rfl | exact Or.inr rfl))) (fun _ _ _ _ _ => pts_nil) (fun _ _ _ _ _ => (pe_callR (sp := spD0 K 4 10 (D__law_part (cl d))) (ok__law_part T) (hr.mono (by decide)) rfl T.m__law_part T.k__law_part pass0 (pa_cons (pv 9) (pa_cons (pv 10) (pa_cons (pv 7) (pa_cons (pv 12) pa_nil))))))) pa_nil))) (pss_cons (ps_if (pt_cmpR (op_in2 (K := K) hu5) pe_non (pv 11) rfl) (pss_one (ps_ret pe_non)) pss_nil) (pss_one (ps_expr (pe_bm PySem.F.plainAttrs_list PySem.F.slot_list_append PySem.F.type_list_append mt_append (pv 8) (pa_cons (pv 11) pa_nil))))))) (pss_cons (ps_set (i := 3) sc__law_standing.nd rfl (by first | exact Or.inl rfl | exact Or.inr rfl) (pe_and (pe_cmpR (op_ne2 (K := K) hu) (pv 2) (pe_lst pa_nil) (nomark _)) (pe_one (pe_cmpR (op_ne2 (K := K) hu) (pe_ix (ix_3 (K := K)) (pv 2) (pe_un un_neg pe_int) (fun _ _ => rfl)) pe_str (nomark _))))) (pss_cons (ps_set (i := 4) sc__law_standing.nd rfl (by first | exact Or.inl rfl | exact Or.inr rfl) (pe_ifExp (PW.pt (pw_and (pt_val (pv 3)) (pw_and1 (pt_val (pe_ix (ix_3 (K := K)) (pe_ix (ix_3 (K := K)) (pv 7) (pe_un un_neg pe_int) (fun _ _ => rfl)) pe_int (fun _ _ => rfl)))))) pe_str pe_str)) (pss_cons (ps_set (i := 5) sc__law_standing.nd rfl (by first | exact Or.inl rfl | exact Or.inr rfl) (pe_ifExp (pt_val (pv 3)) (pe_callB (call_min2 rfl) (by rfl) T.b_min (by decide +kernel) (pa_cons (pe_callTy call_int2 rfl T.b_int (by decide +kernel) (pa_cons (pe_ix (ix_3 (K := K)) (pv 0) pe_int (fun _ _ => rfl)) pa_nil)) (pa_cons (pe_op op_sub (pe_ix (ix_3 (K := K)) (pe_ix (ix_3 (K := K)) (pv 7) (pe_un un_neg pe_int) (fun _ _ => rfl)) pe_int (fun _ _ => rfl)) (pe_ix (ix_3 (K := K)) (pe_ix (ix_3 (K := K)) (pv 7) (pe_un un_neg pe_int) (fun _ _ => rfl)) pe_int (fun _ _ => rfl))) pa_nil))) pe_int)) (pss_cons (ps_set (i := 6) sc__law_standing.nd rfl (by first | exact Or.inl rfl | exact Or.inr rfl) (pe_ifExp (pt_cmp (pc_isN (pe_ix (ix_3 (K := K)) (pv 0) pe_int (fun _ _ => rfl)))) pe_int (pe_callB (call_len2 (K := K)) (by rfl) T.b_len PySem.boot_len (pa_cons (pv 7) pa_nil)))) (pss_one (ps_ret (pe_tup (pa_cons (pe_ifExp (pt_val (pv 3)) (pv 4) pe_str) (pa_cons (pv 5) (pa_cons (pv 6) (pa_cons (pe_callTy call_tuple_of rfl T.b_tuple (by decide +kernel) (pa_cons (pv 8) pa_nil)) pa_nil)))))))))))))), (L_seq (L_if (L_tnot (L_test (Lz_call (A_cons (L_var (i := 0)) (A_cons (L_var (i := 2)) A_nil))))) (L_ret L_non) L_next) (L_seq (L_tupN (is := [7, 8]) (N_cons (Lz_call (A_cons (L_var (i := 2)) A_nil)) (N_cons (L_lst A_nil) N_nil)) rfl (by decide)) (L_seq (L_forS (vs := [9, 10]) (L_var (i := 1)) (U_tup (Us_cons (U_name (by decide)) (Us_cons (U_name (by decide)) Us_nil))) (L_seq (L_set (L_cb C_tuple (A_cons (L_lcS (Et := E0) (Ea := E0) (L_tup (A_cons L_str (A_cons L_str A_nil))) (U_name (by decide)) L_yes (Lz_call (A_cons (L_var (i := 9)) (A_cons (L_var (i := 10)) (A_cons (L_var (i := 7)) (A_cons (L_var (i := 12)) A_nil)))))) A_nil))) (L_seq (L_if (L_test (L_bin S_in L_non (L_var (i := 11)))) (L_ret L_non) L_next) (L_drop (L_mut (i := 8) M_append (A_cons (L_var (i := 11)) A_nil)))))) (L_seq (L_set (L_and (L_bin S_ne (L_var (i := 2)) (L_lst A_nil)) (L_bin S_ne (L_bin S_ix (L_var (i := 2)) (L_neg L_int)) L_str))) (L_seq (L_set (L_ifE (L_tand (L_test (L_var (i := 3))) (L_test (L_bin S_ix (L_bin S_ix (L_var (i := 7)) (L_neg L_int)) L_int))) L_str L_str)) (L_seq (L_set (L_ifE (L_test (L_var (i := 3))) (L_cb C_min (A_cons (L_cb C_int (A_cons (L_bin S_ix (L_var (i := 0)) L_int) A_nil)) (A_cons (L_bin S_sub (L_bin S_ix (L_bin S_ix (L_var (i := 7)) (L_neg L_int)) L_int) (L_bin S_ix (L_bin S_ix (L_var (i := 7)) (L_neg L_int)) L_int)) A_nil))) L_int)) (L_seq (L_set (L_ifE (L_test (L_isN (L_bin S_ix (L_var (i := 0)) L_int))) L_int (L_cb C_len (A_cons (L_var (i := 7)) A_nil)))) (L_ret (L_tup (A_cons (L_ifE (L_test (L_var (i := 3))) (L_var (i := 4)) L_str) (A_cons (L_var (i := 5)) (A_cons (L_var (i := 6)) (A_cons (L_cb C_tuple (A_cons (L_var (i := 8)) A_nil)) A_nil)))))))))))))⟩)
theorem ok__is_block (T : Txt K mg d) : FnR P w K mg base CX0 3 d.f__is_block (spD0 K 1 4 (D__is_block (cl d))) :=
  mkDz T.F__is_block sc__is_block (by decide) (fun _ _ _ _ _ _ us hl => match us, hl with | [_], _ => rfl) (fun cdv A outer s H E hr => by
    have hu := hr.units
    have hu5 := room5 hr
    exact ⟨_, (pss_cons (ps_if (PW.pt (pw_or (pt_not (pt_val (pe_callB call_isi (by rfl) T.b_isinstance (by decide +kernel) (pa_cons (pv 0) (pa_cons (pe_bltn (v := .ty "tuple") rfl T.b_tuple (by decide +kernel) rfl) pa_nil))))) (pw_or1 (pt_cmpR (op_ne2 (K := K) hu) (pe_callB (call_len2 (K := K)) (by rfl) T.b_len PySem.boot_len (pa_cons (pv 0) pa_nil)) pe_int (nomark _))))) (pss_one (ps_ret pe_bl)) pss_nil) (pss_cons (ps_asg (pv 0) (pg_tupK (K := K) (n := 3) rfl (pgs_cons (pg_name (i := 1) sc__is_block.nd rfl (by first | exact Or.inl rfl | exact Or.inr rfl)) (pgs_cons (pg_name (i := 2) sc__is_block.nd rfl (by first | exact Or.inl rfl | exact Or.inr rfl)) (pgs_cons (pg_name (i := 3) sc__is_block.nd rfl (by first | exact Or.inl rfl | exact Or.inr rfl)) pgs_nil))))) (pss_one (ps_ret (pe_and (pe_callR (sp := spD0 K 1 1 (D_is_number (cl d))) (ok_is_number T) (hr.mono (by decide)) rfl T.m_is_number T.k_is_number pass0 (pa_cons (pv 1) pa_nil)) (pe_and (pe_callR (sp := spD0 K 1 1 (D_is_number (cl d))) (ok_is_number T) (hr.mono (by decide)) rfl T.m_is_number T.k_is_number pass0 (pa_cons (pv 2) pa_nil)) (pe_and (pe_cmpR (op_lt2 (K := K) hu) (pv 1) (pv 2) (nomark _)) (pe_one (pe_cmpR (op_in2 (K := K) hu5) (pv 3) (pe_glob (v := .ref d.c_WORDS) rfl T.m_WORDS rfl) rfl))))))))), (L_seq (L_if (L_tor (L_tnot (L_test (L_isi (kit_ok T) (tyc T) (.ty "tuple") (L_var (i := 0))))) (L_test (L_bin S_ne (L_cb C_len (A_cons (L_var (i := 0)) A_nil)) L_int))) (L_ret L_bl) L_next) (L_seq (L_tgt (vs := [1, 2, 3]) (L_var (i := 0)) (U_tup (Us_cons (U_name (by decide)) (Us_cons (U_name (by decide)) (Us_cons (U_name (by decide)) Us_nil))))) (L_ret (L_and (Lz_call (A_cons (L_var (i := 1)) A_nil)) (L_and (Lz_call (A_cons (L_var (i := 2)) A_nil)) (L_and (L_bin S_lt2 (L_var (i := 1)) (L_var (i := 2))) (L_bin S_in (L_var (i := 3)) (L_c (rp_WORDS T)))))))))⟩)
theorem ok_is_view (T : Txt K mg d) : FnR P w K mg base CX0 4 d.f_is_view (spD0 K 1 3 (D_is_view (cl d))) :=
  mkDz T.F_is_view sc_is_view (by decide) (fun _ _ _ _ _ _ us hl => match us, hl with | [_], _ => rfl) (fun cdv A outer s H E hr => by
    have hu := hr.units
    have hu5 := room5 hr
    exact ⟨_, (pss_cons (ps_if (pt_not (pt_val (pe_callB call_isi (by rfl) T.b_isinstance (by decide +kernel) (pa_cons (pv 0) (pa_cons (pe_bltn (v := .ty "tuple") rfl T.b_tuple (by decide +kernel) rfl) pa_nil))))) (pss_one (ps_ret pe_bl)) pss_nil) (pss_cons (ps_if (pt_not (pt_val (pe_callB (cr_all rfl) (by rfl) T.b_all (by decide +kernel) (pa_cons (pe_lc (own := [("block", 2)]) rfl sc_is_view.nd (pi_seq (K := K) (pv 0)) (blkOk_by (N := ["value", "at", "block"]) (sc := defScope s_is_view) (by decide +kernel)) (fun _ _ _ _ _ => (pg_name (i := 2) sc_is_view.nd rfl (by first | exact Or.inl rfl | exact Or.inr rfl))) (fun _ _ _ _ _ => pts_nil) (fun _ _ _ _ _ => (pe_callR (sp := spD0 K 1 4 (D__is_block (cl d))) (ok__is_block T) (hr.mono (by decide)) rfl T.m__is_block T.k__is_block pass0 (pa_cons (pv 2) pa_nil)))) pa_nil)))) (pss_one (ps_ret pe_bl)) pss_nil) (pss_one (ps_ret (pe_callB (cr_all rfl) (by rfl) T.b_all (by decide +kernel) (pa_cons (pe_lc (own := [("at", 1)]) rfl sc_is_view.nd (pi_range1 rfl T.b_range (pa_cons (pe_op op_sub (pe_callB (call_len2 (K := K)) (by rfl) T.b_len PySem.boot_len (pa_cons (pv 0) pa_nil)) pe_int) pa_nil)) (blkOk_by (N := ["value", "at", "block"]) (sc := defScope s_is_view) (by decide +kernel)) (fun _ _ _ _ _ => (pg_name (i := 1) sc_is_view.nd rfl (by first | exact Or.inl rfl | exact Or.inr rfl))) (fun _ _ _ _ _ => pts_nil) (fun _ _ _ _ _ => (pe_cmpR (op_lt2 (K := K) hu) (pe_ix (ix_3 (K := K)) (pv 0) (pv 1) (fun _ _ => rfl)) (pe_ix (ix_3 (K := K)) (pv 0) (pe_op (op_add4 (K := K)) (pv 1) pe_int) (fun _ _ => rfl)) (nomark _)))) pa_nil)))))), (L_seq (L_if (L_tnot (L_test (L_isi (kit_ok T) (tyc T) (.ty "tuple") (L_var (i := 0))))) (L_ret L_bl) L_next) (L_seq (L_if (L_tnot (L_test (L_cb C_all (A_cons (L_lcS (Et := E0) (Ea := E0) (L_var (i := 0)) (U_name (by decide)) L_yes (Lz_call (A_cons (L_var (i := 2)) A_nil))) A_nil)))) (L_ret L_bl) L_next) (L_ret (L_cb C_all (A_cons (L_lc (Et := E0) (Ea := E0) (I_rng1 (L_bin S_sub (L_cb C_len (A_cons (L_var (i := 0)) A_nil)) L_int)) (U_name (by decide)) L_yes (L_bin S_lt2 (L_bin S_ix (L_var (i := 0)) (L_var (i := 1))) (L_bin S_ix (L_var (i := 0)) (L_bin S_add4 (L_var (i := 1)) L_int)))) A_nil)))))⟩)
end
end DD
set_option Elab.async false
set_option linter.all false
set_option maxRecDepth 100000
set_option maxHeartbeats 4000000
namespace DD
open PySem PySem.Spec PyProof.Rows L2 StX ClX DL
section
variable {P : Program} {w : World} {K : PySem.W.Frag} {mg : Str → Option Value} {base : Heap} {d : Ad}
theorem ok_is_look (T : Txt K mg d) : FnR P w K mg base CX0 5 d.f_is_look (spD0 K 1 3 (D_is_look (cl d))) :=
  mkDz T.F_is_look sc_is_look (by decide) (fun _ _ _ _ _ _ us hl => match us, hl with | [_], _ => rfl) (fun cdv A outer s H E hr => by
    have hu := hr.units
    have hu5 := room5 hr
    exact ⟨_, (pss_cons (ps_if (PW.pt (pw_or (pt_not (pt_val (pe_callB call_isi (by rfl) T.b_isinstance (by decide +kernel) (pa_cons (pv 0) (pa_cons (pe_bltn (v := .ty "tuple") rfl T.b_tuple (by decide +kernel) rfl) pa_nil))))) (pw_or1 (pt_cmpR (op_ne2 (K := K) hu) (pe_callB (call_len2 (K := K)) (by rfl) T.b_len PySem.boot_len (pa_cons (pv 0) pa_nil)) pe_int (nomark _))))) (pss_one (ps_ret pe_bl)) pss_nil) (pss_cons (ps_asg (pv 0) (pg_tupK (K := K) (n := 2) rfl (pgs_cons (pg_name (i := 1) sc_is_look.nd rfl (by first | exact Or.inl rfl | exact Or.inr rfl)) (pgs_cons (pg_name (i := 2) sc_is_look.nd rfl (by first | exact Or.inl rfl | exact Or.inr rfl)) pgs_nil)))) (pss_one (ps_ret (pe_and (pe_callB call_isi (by rfl) T.b_isinstance (by decide +kernel) (pa_cons (pv 1) (pa_cons (pe_glob (v := .ref d.C_Rule) rfl T.m_Rule rfl) pa_nil))) (pe_one (pe_callR (sp := spD0 K 1 3 (D_is_view (cl d))) (ok_is_view T) (hr.mono (by decide)) rfl T.m_is_view T.k_is_view pass0 (pa_cons (pv 2) pa_nil)))))))), (L_seq (L_if (L_tor (L_tnot (L_test (L_isi (kit_ok T) (tyc T) (.ty "tuple") (L_var (i := 0))))) (L_test (L_bin S_ne (L_cb C_len (A_cons (L_var (i := 0)) A_nil)) L_int))) (L_ret L_bl) L_next) (L_seq (L_tgt (vs := [1, 2]) (L_var (i := 0)) (U_tup (Us_cons (U_name (by decide)) (Us_cons (U_name (by decide)) Us_nil)))) (L_ret (L_and (L_isi (kit_ok T) (tyc T) (.own _) (L_var (i := 1))) (Lz_call (A_cons (L_var (i := 2)) A_nil))))))⟩)
theorem ok_check_looks (T : Txt K mg d) : FnR P w K mg base CX0 6 d.f_check_looks (spD0 K 1 3 (D_check_looks (cl d))) :=
  mkDz T.F_check_looks sc_check_looks (by decide) (fun _ _ _ _ _ _ us hl => match us, hl with | [_], _ => rfl) (fun cdv A outer s H E hr => by
    have hu := hr.units
    have hu5 := room5 hr
    exact ⟨_, (pss_cons (ps_if (pt_not (pt_val (pe_callR (sp := spD0 K 1 1 (D_is_sequence (cl d))) (ok_is_sequence T) (hr.mono (by decide)) rfl T.m_is_sequence T.k_is_sequence pass0 (pa_cons (pv 0) pa_nil)))) (pss_one ps_dead) pss_nil) (pss_one (ps_for PassesOwn.never rfl (pi_enum2K (K := K) rfl T.b_enumerate (pa_cons (pv 0) pa_nil)) (pg_tupK (K := K) (n := 2) rfl (pgs_cons (pg_name (i := 1) sc_check_looks.nd rfl (by first | exact Or.inl rfl | exact Or.inr rfl)) (pgs_cons (pg_name (i := 2) sc_check_looks.nd rfl (by first | exact Or.inl rfl | exact Or.inr rfl)) pgs_nil))) (pss_one (ps_if (pt_not (pt_val (pe_callR (sp := spD0 K 1 3 (D_is_look (cl d))) (ok_is_look T) (hr.mono (by decide)) rfl T.m_is_look T.k_is_look pass0 (pa_cons (pv 2) pa_nil)))) (pss_one ps_dead) pss_nil))))), (L_seq (L_if (L_tnot (L_test (Lz_call (A_cons (L_var (i := 0)) A_nil)))) L_dead L_next) (L_for (vs := [1, 2]) (I_enum2 (L_var (i := 0))) (U_tup (Us_cons (U_name (by decide)) (Us_cons (U_name (by decide)) Us_nil))) (L_if (L_tnot (L_test (Lz_call (A_cons (L_var (i := 2)) A_nil)))) L_dead L_next)))⟩)
theorem ok_is_let (T : Txt K mg d) : FnR P w K mg base CX0 1 d.f_is_let (spD0 K 3 6 (D_is_let (cl d))) :=
  mkDz T.F_is_let sc_is_let (by decide) (fun _ _ _ _ _ _ us hl => match us, hl with | [_, _, _], _ => rfl) (fun cdv A outer s H E hr => by
    have hu := hr.units
    have hu5 := room5 hr
    exact ⟨_, (pss_cons (ps_if (PW.pt (pw_and (pt_cmpR (op_eq2 (K := K) hu) (pv 2) pe_str (nomark _)) (pw_and1 (pt_not (pt_val (pe_fldK (K := K) (pv 0) rfl)))))) (pss_one (ps_ret pe_bl)) pss_nil) (pss_cons (ps_set (i := 3) sc_is_let.nd rfl (by first | exact Or.inl rfl | exact Or.inr rfl) (pe_cmpR (op_ne2 (K := K) hu) (pv 2) pe_str (nomark _))) (pss_one (ps_ret (pe_callB (cr_all rfl) (by rfl) T.b_all (by decide +kernel) (pa_cons (pe_lc (own := [("at", 4), ("told", 5)]) rfl sc_is_let.nd (pi_seq (K := K) (pe_fldK (K := K) (pv 0) rfl)) (blkOk_by (N := ["frame", "tick", "letter", "is_taken", "at", "told"]) (sc := defScope s_is_let) (by decide +kernel)) (fun _ _ _ _ _ => (pg_tupK (K := K) (n := 2) rfl (pgs_cons (pg_name (i := 4) sc_is_let.nd rfl (by first | exact Or.inl rfl | exact Or.inr rfl)) (pgs_cons (pg_name (i := 5) sc_is_let.nd rfl (by first | exact Or.inl rfl | exact Or.inr rfl)) pgs_nil)))) (fun _ _ _ _ _ => (pts_one (pt_cmpR (op_eq2 (K := K) hu) (pv 4) (pv 1) (nomark _)))) (fun _ _ _ _ _ => (pe_cmpR (op_eq2 (K := K) hu) (pv 5) (pv 3) (nomark _)))) pa_nil)))))), (L_seq (L_if (L_tand (L_test (L_bin S_eq (L_var (i := 2)) L_str)) (L_tnot (L_test (L_fld (fa_private T) (L_var (i := 0)))))) (L_ret L_bl) L_next) (L_seq (L_set (L_bin S_ne (L_var (i := 2)) L_str)) (L_ret (L_cb C_all (A_cons (L_lcS (Et := E0) (Ea := E0) (L_fld (fa_known T) (L_var (i := 0))) (U_tup (Us_cons (U_name (by decide)) (Us_cons (U_name (by decide)) Us_nil))) (L_test (L_bin S_eq (L_var (i := 4)) (L_var (i := 1)))) (L_bin S_eq (L_var (i := 5)) (L_var (i := 3)))) A_nil)))))⟩)
theorem ok_word_shown (T : Txt K mg d) : FnR P w K mg base CX0 1 d.f_word_shown (spD0 K 2 2 (D_word_shown (cl d))) :=
  mkDz T.F_word_shown sc_word_shown (by decide) (fun _ _ _ _ _ _ us hl => match us, hl with | [_, _], _ => rfl) (fun cdv A outer s H E hr => by
    have hu := hr.units
    have hu5 := room5 hr
    exact ⟨_, (pss_cons (ps_if (PW.pt (pw_or (pt_not (pt_val (pv 1))) (pw_or1 (pt_cmpR (op_eq2 (K := K) hu) (pe_fldK (K := K) (pv 0) rfl) pe_str (nomark _))))) (pss_one (ps_ret pe_str)) pss_nil) (pss_cons (ps_if (pt_cmpR (op_eq2 (K := K) hu) (pe_fldK (K := K) (pv 0) rfl) pe_str (nomark _)) (pss_one (ps_ret pe_non)) pss_nil) (pss_one (ps_ret pe_str)))), (L_seq (L_if (L_tor (L_tnot (L_test (L_var (i := 1)))) (L_test (L_bin S_eq (L_fld (fa_private T) (L_var (i := 0))) L_str))) (L_ret L_str) L_next) (L_seq (L_if (L_test (L_bin S_eq (L_fld (fa_private T) (L_var (i := 0))) L_str)) (L_ret L_non) L_next) (L_ret L_str)))⟩)
theorem ok_Maker_init2 (T : Txt K mg d) : FnR P w K mg base CX0 2 d.f_Maker___init__ (spD0 K 3 9 (fun ρ => D_Maker___init__ (cl d) ρ)) :=
  mkDz (T := D_Maker___init__ (cl d)) T.F_Maker___init__ sc_Maker___init__ (by decide) (fun _ _ _ _ _ _ us hl => match us, hl with | [_, _, _], _ => rfl) (fun cdv A outer s H E hr => by
    have hu := hr.units
    have hu5 := room5 hr
    exact ⟨_, (pss_cons (ps_asg (pv 1) (pg_tupK (K := K) (n := 2) rfl (pgs_cons (pg_name (i := 3) sc_Maker___init__.nd rfl (by first | exact Or.inl rfl | exact Or.inr rfl)) (pgs_cons (pg_name (i := 4) sc_Maker___init__.nd rfl (by first | exact Or.inl rfl | exact Or.inr rfl)) pgs_nil)))) (pss_cons (ps_fld (pv 0) (pv 3) rfl) (pss_cons (ps_fld (pv 0) (pv 2) rfl) (pss_cons (ps_fld (pv 0) (pe_callTy call_tuple_of rfl T.b_tuple (by decide +kernel) (pa_cons (pe_lc (own := [("begin", 6), ("end", 7), ("told", 8)]) rfl sc_Maker___init__.nd (pi_seq (K := K) (pv 4)) (blkOk_by (N := ["self", "look", "word", "rule", "view", "kind", "begin", "end", "told"]) (sc := defScope s_Maker___init__) (by decide +kernel)) (fun _ _ _ _ _ => (pg_tupK (K := K) (n := 3) rfl (pgs_cons (pg_name (i := 6) sc_Maker___init__.nd rfl (by first | exact Or.inl rfl | exact Or.inr rfl)) (pgs_cons (pg_name (i := 7) sc_Maker___init__.nd rfl (by first | exact Or.inl rfl | exact Or.inr rfl)) (pgs_cons (pg_name (i := 8) sc_Maker___init__.nd rfl (by first | exact Or.inl rfl | exact Or.inr rfl)) pgs_nil))))) (fun _ _ _ _ _ => (pts_one (pt_cmpR (op_eq2 (K := K) hu) (pv 8) (pv 2) (nomark _)))) (fun _ _ _ _ _ => (pe_tup (pa_cons (pv 6) (pa_cons (pv 7) pa_nil))))) pa_nil)) rfl) (pss_one (ps_fld (pv 0) (pe_callTy call_tuple_of rfl T.b_tuple (by decide +kernel) (pa_cons (pe_lc (own := [("kind", 5)]) rfl sc_Maker___init__.nd (pi_seq (K := K) (pe_glob (v := .ref d.c_KINDS) rfl T.m_KINDS rfl)) (blkOk_by (N := ["self", "look", "word", "rule", "view", "kind", "begin", "end", "told"]) (sc := defScope s_Maker___init__) (by decide +kernel)) (fun _ _ _ _ _ => (pg_name (i := 5) sc_Maker___init__.nd rfl (by first | exact Or.inl rfl | exact Or.inr rfl))) (fun _ _ _ _ _ => (pts_one (pt_cmpR (op_eq2 (K := K) hu) (pe_callR (sp := spD0 K 2 2 (D_word_shown (cl d))) (ok_word_shown T) (hr.mono (by decide)) rfl T.m_word_shown T.k_word_shown pass0 (pa_cons (pv 3) (pa_cons (pe_cmpR (op_eq2 (K := K) hu) (pv 5) pe_str (nomark _)) pa_nil))) (pv 2) (nomark _)))) (fun _ _ _ _ _ => (pv 5))) pa_nil)) rfl)))))), (L_seq (L_tgt (vs := [3, 4]) (L_var (i := 1)) (U_tup (Us_cons (U_name (by decide)) (Us_cons (U_name (by decide)) Us_nil)))) (L_seq (L_sfld (i := 0) (fs_Maker_rule T) (L_var (i := 3))) (L_seq (L_sfld (i := 0) (fs_Maker_word T) (L_var (i := 2))) (L_seq (L_sfld (i := 0) (fs_Maker_spans T) (L_cb C_tuple (A_cons (L_lcS (Et := E0) (Ea := E0) (L_var (i := 4)) (U_tup (Us_cons (U_name (by decide)) (Us_cons (U_name (by decide)) (Us_cons (U_name (by decide)) Us_nil)))) (L_test (L_bin S_eq (L_var (i := 8)) (L_var (i := 2)))) (L_tup (A_cons (L_var (i := 6)) (A_cons (L_var (i := 7)) A_nil)))) A_nil))) (L_sfld (i := 0) (fs_Maker_kinds T) (L_cb C_tuple (A_cons (L_lcS (Et := E0) (Ea := E0) (L_c (rp_KINDS T)) (U_name (by decide)) (L_test (L_bin S_eq (Lz_call (A_cons (L_var (i := 3)) (A_cons (L_bin S_eq (L_var (i := 5)) L_str) A_nil))) (L_var (i := 2)))) (L_var (i := 5))) A_nil)))))))⟩)
theorem ok_make_makers (T : Txt K mg d) : FnR P w K mg base CX0 4 d.f_make_makers (spD0 K 1 3 (D_make_makers (cl d))) :=
  mkDz T.F_make_makers sc_make_makers (by decide) (fun _ _ _ _ _ _ us hl => match us, hl with | [_], _ => rfl) (fun cdv A outer s H E hr => by
    have hu := hr.units
    have hu5 := room5 hr
    exact ⟨_, (pss_one (ps_ret (pe_lc (own := [("look", 1)]) rfl sc_make_makers.nd (pi_seq (K := K) (pv 0)) (blkOk_by (N := ["looks", "look", "word"]) (sc := defScope s_make_makers) (by decide +kernel)) (fun _ _ _ _ _ => (pg_name (i := 1) sc_make_makers.nd rfl (by first | exact Or.inl rfl | exact Or.inr rfl))) (fun _ _ _ _ _ => pts_nil) (fun _ _ _ _ _ => (pe_callTy call_tuple_of rfl T.b_tuple (by decide +kernel) (pa_cons (pe_lc (own := [("word", 2)]) rfl sc_make_makers.nd (pi_seq (K := K) (pe_glob (v := .ref d.c_WORDS) rfl T.m_WORDS rfl)) (blkOk2 (N := ["looks", "look", "word"]) (sc := defScope s_make_makers) rfl (by decide +kernel)) (fun _ _ _ _ _ => (pg_name (i := 2) sc_make_makers.nd rfl (by first | exact Or.inl rfl | exact Or.inr rfl))) (fun _ _ _ _ _ => pts_nil) (fun _ _ _ _ _ => (pe_makeR (sp := spD0 K 3 9 (fun ρ => D_Maker___init__ (cl d) ρ)) T.mk_Maker (ok_Maker_init2 T) (hr.mono (by decide)) rfl T.m_Maker pass0 (pa_cons (pv 1) (pa_cons (pv 2) pa_nil))))) pa_nil)))))), (L_ret (L_lcS (Et := E0) (Ea := E0) (L_var (i := 0)) (U_name (by decide)) L_yes (L_cb C_tuple (A_cons (L_lcS (Et := E0) (Ea := E0) (L_c (rp_WORDS T)) (U_name (by decide)) L_yes (Lz_make (A_cons (L_var (i := 1)) (A_cons (L_var (i := 2)) A_nil)))) A_nil))))⟩)
theorem ok__begun_head (T : Txt K mg d) : FnR P w K mg base CX0 1 d.f__begun_head (spD0 K 3 3 (D__begun_head (cl d))) :=
  mkDz T.F__begun_head sc__begun_head (by decide) (fun _ _ _ _ _ _ us hl => match us, hl with | [_, _, _], _ => rfl) (fun cdv A outer s H E hr => by
    have hu := hr.units
    have hu5 := room5 hr
    exact ⟨_, (pss_cons (ps_if (pt_cmp (pc_isN (pe_fldK (K := K) (pv 0) rfl))) (pss_one (ps_ret (pe_tup (pa_cons (pv 2) (pa_cons pe_int (pa_cons pe_int pa_nil)))))) pss_nil) (pss_cons (ps_if (pt_cmpR op_ge (pv 1) (pe_fldK (K := K) (pv 0) rfl) (nomark _)) (pss_one (ps_ret pe_non)) pss_nil) (pss_one (ps_ret (pe_tup (pa_cons (pv 2) (pa_cons pe_int (pa_cons (pe_op (op_add4 (K := K)) (pv 1) pe_int) pa_nil)))))))), (L_seq (L_if (L_test (L_isN (L_fld (fa_most T) (L_var (i := 0))))) (L_ret (L_tup (A_cons (L_var (i := 2)) (A_cons L_int (A_cons L_int A_nil))))) L_next) (L_seq (L_if (L_test (L_bin S_ge (L_var (i := 1)) (L_fld (fa_most T) (L_var (i := 0))))) (L_ret L_non) L_next) (L_ret (L_tup (A_cons (L_var (i := 2)) (A_cons L_int (A_cons (L_bin S_add4 (L_var (i := 1)) L_int) A_nil)))))))⟩)
theorem ok_is_long_enough (T : Txt K mg d) : FnR P w K mg base CX0 1 d.f_is_long_enough (spD0 K 2 5 (D_is_long_enough (cl d))) :=
  mkDz T.F_is_long_enough sc_is_long_enough (by decide) (fun _ _ _ _ _ _ us hl => match us, hl with | [_, _], _ => rfl) (fun cdv A outer s H E hr => by
    have hu := hr.units
    have hu5 := room5 hr
    exact ⟨_, (pss_cons (ps_asg (pv 1) (pg_tupK (K := K) (n := 3) rfl (pgs_cons (pg_name (i := 2) sc_is_long_enough.nd rfl (by first | exact Or.inl rfl | exact Or.inr rfl)) (pgs_cons (pg_name (i := 3) sc_is_long_enough.nd rfl (by first | exact Or.inl rfl | exact Or.inr rfl)) (pgs_cons (pg_name (i := 4) sc_is_long_enough.nd rfl (by first | exact Or.inl rfl | exact Or.inr rfl)) pgs_nil))))) (pss_one (ps_ret (pe_or (pe_cmpR (op_eq2 (K := K) hu) (pv 2) pe_str (nomark _)) (pe_one (pe_cmpR (op_eq2 (K := K) hu) (pv 3) (pe_fldK (K := K) (pv 0) rfl) (nomark _))))))), (L_seq (L_tgt (vs := [2, 3, 4]) (L_var (i := 1)) (U_tup (Us_cons (U_name (by decide)) (Us_cons (U_name (by decide)) (Us_cons (U_name (by decide)) Us_nil))))) (L_ret (L_or (L_bin S_eq (L_var (i := 2)) L_str) (L_bin S_eq (L_var (i := 3)) (L_fld (fa_shortest T) (L_var (i := 0)))))))⟩)
theorem ok_next_head (T : Txt K mg d) : FnR P w K mg base CX0 2 d.f_next_head (spD0 K 3 6 (D_next_head (cl d))) :=
  mkDz T.F_next_head sc_next_head (by decide) (fun _ _ _ _ _ _ us hl => match us, hl with | [_, _, _], _ => rfl) (fun cdv A outer s H E hr => by
    have hu := hr.units
    have hu5 := room5 hr
    exact ⟨_, (pss_cons (ps_asg (pv 1) (pg_tupK (K := K) (n := 3) rfl (pgs_cons (pg_name (i := 3) sc_next_head.nd rfl (by first | exact Or.inl rfl | exact Or.inr rfl)) (pgs_cons (pg_name (i := 4) sc_next_head.nd rfl (by first | exact Or.inl rfl | exact Or.inr rfl)) (pgs_cons (pg_name (i := 5) sc_next_head.nd rfl (by first | exact Or.inl rfl | exact Or.inr rfl)) pgs_nil))))) (pss_cons (ps_if (pt_cmpR (op_eq2 (K := K) hu) (pv 2) pe_str (nomark _)) (pss_one (ps_ret (pe_ifExp (pt_cmpR (op_eq2 (K := K) hu) (pv 3) pe_str (nomark _)) pe_non (pe_tup (pa_cons (pv 3) (pa_cons (pe_callB (call_min2 rfl) (by rfl) T.b_min (by decide +kernel) (pa_cons (pe_op (op_add4 (K := K)) (pv 4) pe_int) (pa_cons (pe_fldK (K := K) (pv 0) rfl) pa_nil))) (pa_cons (pv 5) pa_nil))))))) pss_nil) (pss_cons (ps_if (pt_not (pt_val (pe_callR (sp := spD0 K 2 5 (D_is_long_enough (cl d))) (ok_is_long_enough T) (hr.mono (by decide)) rfl T.m_is_long_enough T.k_is_long_enough pass0 (pa_cons (pv 0) (pa_cons (pv 1) pa_nil))))) (pss_one (ps_ret pe_non)) pss_nil) (pss_cons (ps_if (pt_cmpR (op_eq2 (K := K) hu) (pv 2) pe_str (nomark _)) (pss_one (ps_ret (pe_tup (pa_cons pe_str (pa_cons pe_int (pa_cons (pv 5) pa_nil)))))) pss_nil) (pss_one (ps_ret (pe_callR (sp := spD0 K 3 3 (D__begun_head (cl d))) (ok__begun_head T) (hr.mono (by decide)) rfl T.m__begun_head T.k__begun_head pass0 (pa_cons (pv 0) (pa_cons (pv 5) (pa_cons (pv 2) pa_nil)))))))))), (L_seq (L_tgt (vs := [3, 4, 5]) (L_var (i := 1)) (U_tup (Us_cons (U_name (by decide)) (Us_cons (U_name (by decide)) (Us_cons (U_name (by decide)) Us_nil))))) (L_seq (L_if (L_test (L_bin S_eq (L_var (i := 2)) L_str)) (L_ret (L_ifE (L_test (L_bin S_eq (L_var (i := 3)) L_str)) L_non (L_tup (A_cons (L_var (i := 3)) (A_cons (L_cb C_min (A_cons (L_bin S_add4 (L_var (i := 4)) L_int) (A_cons (L_fld (fa_shortest T) (L_var (i := 0))) A_nil))) (A_cons (L_var (i := 5)) A_nil)))))) L_next) (L_seq (L_if (L_tnot (L_test (Lz_call (A_cons (L_var (i := 0)) (A_cons (L_var (i := 1)) A_nil))))) (L_ret L_non) L_next) (L_seq (L_if (L_test (L_bin S_eq (L_var (i := 2)) L_str)) (L_ret (L_tup (A_cons L_str (A_cons L_int (A_cons (L_var (i := 5)) A_nil))))) L_next) (L_ret (Lz_call (A_cons (L_var (i := 0)) (A_cons (L_var (i := 5)) (A_cons (L_var (i := 2)) A_nil)))))))))⟩)
end
end DD
set_option Elab.async false
set_option linter.all false
set_option maxRecDepth 100000
set_option maxHeartbeats 4000000
namespace DD
open PySem PySem.Spec PyProof.Rows L2 StX ClX DL
section
variable {P : Program} {w : World} {K : PySem.W.Frag} {mg : Str → Option Value} {base : Heap} {d : Ad}
theorem ok_Maker_takes (T : Txt K mg d) : FnR P w K mg base CX0 1 d.f_Maker_takes (spD0 K 2 2 (D_Maker_takes (cl d))) :=
  mkDz T.F_Maker_takes sc_Maker_takes (by decide) (fun _ _ _ _ _ _ us hl => match us, hl with | [_, _], _ => rfl) (fun cdv A outer s H E hr => by
    have hu := hr.units
    have hu5 := room5 hr
    exact ⟨_, (pss_one (ps_ret (pe_cmpR (op_in2 (K := K) hu5) (pv 1) (pe_fldK (K := K) (pv 0) rfl) rfl))), (L_ret (L_bin S_in (L_var (i := 1)) (L_fld (fa_kinds T) (L_var (i := 0)))))⟩)
theorem ok_put_up (T : Txt K mg d) : FnR P w K mg base CX0 1 d.f_put_up (spD0 K 2 2 (D_put_up (cl d))) :=
  mkDz T.F_put_up sc_put_up (by decide) (fun _ _ _ _ _ _ us hl => match us, hl with | [_, _], _ => rfl) (fun cdv A outer s H E hr => by
    have hu := hr.units
    have hu5 := room5 hr
    exact ⟨_, (pss_one (ps_ret (pe_op op_mul (pe_op op_fdiv (pe_op op_sub (pe_op (op_add4 (K := K)) (pv 0) (pv 1)) pe_int) (pv 1)) (pv 1)))), (L_ret (L_bin S_mul (L_bin S_fdiv (L_bin S_sub (L_bin S_add4 (L_var (i := 0)) (L_var (i := 1))) L_int) (L_var (i := 1))) (L_var (i := 1))))⟩)
theorem ok_Maker_gone_on (T : Txt K mg d) : FnR P w K mg base CX0 2 d.f_Maker_gone_on (spD0 K 3 5 (D_Maker_gone_on (cl d))) :=
  mkDz T.F_Maker_gone_on sc_Maker_gone_on (by decide) (fun _ _ _ _ _ _ us hl => match us, hl with | [_, _, _], _ => rfl) (fun cdv A outer s H E hr => by
    have hu := hr.units
    have hu5 := room5 hr
    exact ⟨_, (pss_cons (ps_asg (pv 1) (pg_tupK (K := K) (n := 2) rfl (pgs_cons (pg_name (i := 3) sc_Maker_gone_on.nd rfl (by first | exact Or.inl rfl | exact Or.inr rfl)) (pgs_cons (pg_name (i := 4) sc_Maker_gone_on.nd rfl (by first | exact Or.inl rfl | exact Or.inr rfl)) pgs_nil)))) (pss_cons (ps_if (PW.pt (pw_or (pt_cmp (pc_isN (pv 4))) (pw_or1 (pt_cmpR (op_ne2 (K := K) hu) (pe_ix (ix_3 (K := K)) (pv 4) pe_int (fun _ _ => rfl)) (pe_callR (sp := spD0 K 2 2 (D_put_up (cl d))) (ok_put_up T) (hr.mono (by decide)) rfl T.m_put_up T.k_put_up pass0 (pa_cons (pv 2) (pa_cons (pe_fldK (K := K) (pe_fldK (K := K) (pv 0) rfl) rfl) pa_nil))) (nomark _))))) (pss_one (ps_ret pe_non)) pss_nil) (pss_one (ps_ret (pe_tup (pa_cons (pv 3) (pa_cons (pe_tup (pa_cons (pe_ix (ix_3 (K := K)) (pv 4) pe_int (fun _ _ => rfl)) (pa_cons (pe_callR (sp := spD0 K 2 2 (D_put_up (cl d))) (ok_put_up T) (hr.mono (by decide)) rfl T.m_put_up T.k_put_up pass0 (pa_cons (pe_op (op_add4 (K := K)) (pv 2) pe_int) (pa_cons (pe_fldK (K := K) (pe_fldK (K := K) (pv 0) rfl) rfl) pa_nil))) pa_nil))) pa_nil))))))), (L_seq (L_tgt (vs := [3, 4]) (L_var (i := 1)) (U_tup (Us_cons (U_name (by decide)) (Us_cons (U_name (by decide)) Us_nil)))) (L_seq (L_if (L_tor (L_test (L_isN (L_var (i := 4)))) (L_test (L_bin S_ne (L_bin S_ix (L_var (i := 4)) L_int) (Lz_call (A_cons (L_var (i := 2)) (A_cons (L_fld (fa_step T) (L_fld (fa_rule T) (L_var (i := 0)))) A_nil)))))) (L_ret L_non) L_next) (L_ret (L_tup (A_cons (L_var (i := 3)) (A_cons (L_tup (A_cons (L_bin S_ix (L_var (i := 4)) L_int) (A_cons (Lz_call (A_cons (L_bin S_add4 (L_var (i := 2)) L_int) (A_cons (L_fld (fa_step T) (L_fld (fa_rule T) (L_var (i := 0)))) A_nil))) A_nil))) A_nil))))))⟩)
theorem ok_span_shown (T : Txt K mg d) : FnR P w K mg base CX0 1 d.f_span_shown (spD0 K 3 5 (D_span_shown (cl d))) :=
  mkDz T.F_span_shown sc_span_shown (by decide) (fun _ _ _ _ _ _ us hl => match us, hl with | [_, _, _], _ => rfl) (fun cdv A outer s H E hr => by
    have hu := hr.units
    have hu5 := room5 hr
    exact ⟨_, (pss_cons (ps_if (pt_cmpR (op_lt2 (K := K) hu) (pe_op op_sub (pv 2) (pv 1)) (pe_fldK (K := K) (pv 0) rfl) (nomark _)) (pss_one (ps_ret pe_non)) pss_nil) (pss_cons (ps_if (pt_cmp (pc_isN (pe_fldK (K := K) (pv 0) rfl))) (pss_one (ps_ret (pe_tup (pa_cons (pv 1) (pa_cons (pv 2) pa_nil))))) pss_nil) (pss_cons (ps_asg (pe_fldK (K := K) (pv 0) rfl) (pg_tupK (K := K) (n := 2) rfl (pgs_cons (pg_name (i := 3) sc_span_shown.nd rfl (by first | exact Or.inl rfl | exact Or.inr rfl)) (pgs_cons (pg_name (i := 4) sc_span_shown.nd rfl (by first | exact Or.inl rfl | exact Or.inr rfl)) pgs_nil)))) (pss_cons (ps_par (i := 1) (j := 2) rfl sc_span_shown.nd rfl rfl (by decide) rfl rfl (pa_cons (pe_callB (call_max2 rfl) (by rfl) T.b_max (by decide +kernel) (pa_cons (pv 1) (pa_cons (pv 3) pa_nil))) (pa_cons (pe_callB (call_min2 rfl) (by rfl) T.b_min (by decide +kernel) (pa_cons (pv 2) (pa_cons (pv 4) pa_nil))) pa_nil)) (by first | rfl | exact sw2 (by rfl) (by rfl) (by rfl))) (pss_one (ps_ret (pe_ifExp (pt_cmpR (op_lt2 (K := K) hu) (pv 1) (pv 2) (nomark _)) (pe_tup (pa_cons (pv 1) (pa_cons (pv 2) pa_nil))) pe_non))))))), (L_seq (L_if (L_test (L_bin S_lt2 (L_bin S_sub (L_var (i := 2)) (L_var (i := 1))) (L_fld (fa_least T) (L_var (i := 0))))) (L_ret L_non) L_next) (L_seq (L_if (L_test (L_isN (L_fld (fa_hours T) (L_var (i := 0))))) (L_ret (L_tup (A_cons (L_var (i := 1)) (A_cons (L_var (i := 2)) A_nil)))) L_next) (L_seq (L_tgt (vs := [3, 4]) (L_fld (fa_hours T) (L_var (i := 0))) (U_tup (Us_cons (U_name (by decide)) (Us_cons (U_name (by decide)) Us_nil)))) (L_seq (L_par (N_cons (L_cb C_max (A_cons (L_var (i := 1)) (A_cons (L_var (i := 3)) A_nil))) (N_cons (L_cb C_min (A_cons (L_var (i := 2)) (A_cons (L_var (i := 4)) A_nil))) N_nil))) (L_ret (L_ifE (L_test (L_bin S_lt2 (L_var (i := 1)) (L_var (i := 2)))) (L_tup (A_cons (L_var (i := 1)) (A_cons (L_var (i := 2)) A_nil))) L_non))))))⟩)
theorem ok_Maker_laid (T : Txt K mg d) : FnR P w K mg base CX0 2 d.f_Maker_laid (spD0 K 2 5 (D_Maker_laid (cl d))) :=
  mkDz T.F_Maker_laid sc_Maker_laid (by decide) (fun _ _ _ _ _ _ us hl => match us, hl with | [_, _], _ => rfl) (fun cdv A outer s H E hr => by
    have hu := hr.units
    have hu5 := room5 hr
    exact ⟨_, (pss_cons (ps_asg (pv 1) (pg_tupK (K := K) (n := 2) rfl (pgs_cons (pg_name (i := 3) sc_Maker_laid.nd rfl (by first | exact Or.inl rfl | exact Or.inr rfl)) (pgs_cons (pg_name (i := 4) sc_Maker_laid.nd rfl (by first | exact Or.inl rfl | exact Or.inr rfl)) pgs_nil)))) (pss_cons (ps_if (pt_cmp (pc_isN (pv 4))) (pss_one (ps_ret (pv 1))) pss_nil) (pss_cons (ps_set (i := 2) sc_Maker_laid.nd rfl (by first | exact Or.inl rfl | exact Or.inr rfl) (pe_callR (sp := spD0 K 3 5 (D_span_shown (cl d))) (ok_span_shown T) (hr.mono (by decide)) rfl T.m_span_shown T.k_span_shown pass0 (pa_cons (pe_fldK (K := K) (pv 0) rfl) (pa_cons (pe_ix (ix_3 (K := K)) (pv 4) pe_int (fun _ _ => rfl)) (pa_cons (pe_ix (ix_3 (K := K)) (pv 4) pe_int (fun _ _ => rfl)) pa_nil))))) (pss_cons (ps_if (pt_cmp (pc_isN (pv 2))) (pss_one (ps_ret (pe_tup (pa_cons (pv 3) (pa_cons pe_non pa_nil))))) pss_nil) (pss_cons (ps_if (PW.pt (pw_and (pt_cmpR (op_lt2 (K := K) hu) (pv 3) (pe_callB (call_len2 (K := K)) (by rfl) T.b_len PySem.boot_len (pa_cons (pe_fldK (K := K) (pv 0) rfl) pa_nil)) (nomark _)) (pw_and1 (pt_cmpR (op_eq2 (K := K) hu) (pe_ix (ix_3 (K := K)) (pe_fldK (K := K) (pv 0) rfl) (pv 3) (fun _ _ => rfl)) (pv 2) (nomark _))))) (pss_one (ps_ret (pe_tup (pa_cons (pe_op (op_add4 (K := K)) (pv 3) pe_int) (pa_cons pe_non pa_nil))))) pss_nil) (pss_one (ps_ret pe_non))))))), (L_seq (L_tgt (vs := [3, 4]) (L_var (i := 1)) (U_tup (Us_cons (U_name (by decide)) (Us_cons (U_name (by decide)) Us_nil)))) (L_seq (L_if (L_test (L_isN (L_var (i := 4)))) (L_ret (L_var (i := 1))) L_next) (L_seq (L_set (Lz_call (A_cons (L_fld (fa_rule T) (L_var (i := 0))) (A_cons (L_bin S_ix (L_var (i := 4)) L_int) (A_cons (L_bin S_ix (L_var (i := 4)) L_int) A_nil))))) (L_seq (L_if (L_test (L_isN (L_var (i := 2)))) (L_ret (L_tup (A_cons (L_var (i := 3)) (A_cons L_non A_nil)))) L_next) (L_seq (L_if (L_tand (L_test (L_bin S_lt2 (L_var (i := 3)) (L_cb C_len (A_cons (L_fld (fa_spans T) (L_var (i := 0))) A_nil)))) (L_test (L_bin S_eq (L_bin S_ix (L_fld (fa_spans T) (L_var (i := 0))) (L_var (i := 3))) (L_var (i := 2))))) (L_ret (L_tup (A_cons (L_bin S_add4 (L_var (i := 3)) L_int) (A_cons L_non A_nil)))) L_next) (L_ret L_non))))))⟩)
theorem ok_is_joined (T : Txt K mg d) : FnR P w K mg base CX0 1 d.f_is_joined (spD0 K 4 4 (D_is_joined (cl d))) :=
  mkDz T.F_is_joined sc_is_joined (by decide) (fun _ _ _ _ _ _ us hl => match us, hl with | [_, _, _, _], _ => rfl) (fun cdv A outer s H E hr => by
    have hu := hr.units
    have hu5 := room5 hr
    exact ⟨_, (pss_cons (ps_if (PW.pt (pw_and (pt_cmpR (op_eq2 (K := K) hu) (pv 1) pe_str (nomark _)) (pw_and1 (pt_cmpR (op_eq2 (K := K) hu) (pe_fldK (K := K) (pv 0) rfl) pe_str (nomark _))))) (pss_one (ps_ret pe_bl)) pss_nil) (pss_one (ps_ret (pe_cmpR op_le (pe_op op_sub (pv 3) (pv 2)) (pe_fldK (K := K) (pv 0) rfl) (nomark _))))), (L_seq (L_if (L_tand (L_test (L_bin S_eq (L_var (i := 1)) L_str)) (L_test (L_bin S_eq (L_fld (fa_private T) (L_var (i := 0))) L_str))) (L_ret L_bl) L_next) (L_ret (L_bin S_le (L_bin S_sub (L_var (i := 3)) (L_var (i := 2))) (L_fld (fa_gap T) (L_var (i := 0))))))⟩)
theorem ok_put_down (T : Txt K mg d) : FnR P w K mg base CX0 1 d.f_put_down (spD0 K 2 2 (D_put_down (cl d))) :=
  mkDz T.F_put_down sc_put_down (by decide) (fun _ _ _ _ _ _ us hl => match us, hl with | [_, _], _ => rfl) (fun cdv A outer s H E hr => by
    have hu := hr.units
    have hu5 := room5 hr
    exact ⟨_, (pss_one (ps_ret (pe_op op_mul (pe_op op_fdiv (pv 0) (pv 1)) (pv 1)))), (L_ret (L_bin S_mul (L_bin S_fdiv (L_var (i := 0)) (L_var (i := 1))) (L_var (i := 1))))⟩)
theorem ok_Maker_started (T : Txt K mg d) : FnR P w K mg base CX0 3 d.f_Maker_started (spD0 K 3 8 (D_Maker_started (cl d))) :=
  mkDz T.F_Maker_started sc_Maker_started (by decide) (fun _ _ _ _ _ _ us hl => match us, hl with | [_, _, _], _ => rfl) (fun cdv A outer s H E hr => by
    have hu := hr.units
    have hu5 := room5 hr
    exact ⟨_, (pss_cons (ps_par (i := 4) (j := 5) rfl sc_Maker_started.nd rfl rfl (by decide) rfl rfl (pa_cons (pe_callR (sp := spD0 K 2 2 (D_put_down (cl d))) (ok_put_down T) (hr.mono (by decide)) rfl T.m_put_down T.k_put_down pass0 (pa_cons (pv 2) (pa_cons (pe_fldK (K := K) (pe_fldK (K := K) (pv 0) rfl) rfl) pa_nil))) (pa_cons (pe_callR (sp := spD0 K 2 2 (D_put_up (cl d))) (ok_put_up T) (hr.mono (by decide)) rfl T.m_put_up T.k_put_up pass0 (pa_cons (pe_op (op_add4 (K := K)) (pv 2) pe_int) (pa_cons (pe_fldK (K := K) (pe_fldK (K := K) (pv 0) rfl) rfl) pa_nil))) pa_nil)) (by first | rfl | exact sw2 (by rfl) (by rfl) (by rfl))) (pss_cons (ps_asg (pv 1) (pg_tupK (K := K) (n := 2) rfl (pgs_cons (pg_name (i := 6) sc_Maker_started.nd rfl (by first | exact Or.inl rfl | exact Or.inr rfl)) (pgs_cons (pg_name (i := 7) sc_Maker_started.nd rfl (by first | exact Or.inl rfl | exact Or.inr rfl)) pgs_nil)))) (pss_cons (ps_if (PW.pt (pw_and (pt_cmp (pc_notN (pv 7))) (pw_and1 (pt_val (pe_callR (sp := spD0 K 4 4 (D_is_joined (cl d))) (ok_is_joined T) (hr.mono (by decide)) rfl T.m_is_joined T.k_is_joined pass0 (pa_cons (pe_fldK (K := K) (pv 0) rfl) (pa_cons (pe_fldK (K := K) (pv 0) rfl) (pa_cons (pe_ix (ix_3 (K := K)) (pv 7) pe_int (fun _ _ => rfl)) (pa_cons (pv 4) pa_nil))))))))) (pss_one (ps_ret (pe_tup (pa_cons (pv 6) (pa_cons (pe_tup (pa_cons (pe_ix (ix_3 (K := K)) (pv 7) pe_int (fun _ _ => rfl)) (pa_cons (pv 5) pa_nil))) pa_nil))))) pss_nil) (pss_cons (ps_set (i := 3) sc_Maker_started.nd rfl (by first | exact Or.inl rfl | exact Or.inr rfl) (DD.pe_methR (sp := spD0 K 2 5 (D_Maker_laid (cl d))) (pv 0) T.cl_Maker T.me_Maker_laid (ok_Maker_laid T) (hr.mono (by decide)) pass0 (pa_cons (pv 1) pa_nil))) (pss_one (ps_ret (pe_ifExp (pt_cmp (pc_isN (pv 3))) pe_non (pe_tup (pa_cons (pe_ix (ix_3 (K := K)) (pv 3) pe_int (fun _ _ => rfl)) (pa_cons (pe_tup (pa_cons (pv 4) (pa_cons (pv 5) pa_nil))) pa_nil)))))))))), (L_seq (L_par (N_cons (Lz_call (A_cons (L_var (i := 2)) (A_cons (L_fld (fa_step T) (L_fld (fa_rule T) (L_var (i := 0)))) A_nil))) (N_cons (Lz_call (A_cons (L_bin S_add4 (L_var (i := 2)) L_int) (A_cons (L_fld (fa_step T) (L_fld (fa_rule T) (L_var (i := 0)))) A_nil))) N_nil))) (L_seq (L_tgt (vs := [6, 7]) (L_var (i := 1)) (U_tup (Us_cons (U_name (by decide)) (Us_cons (U_name (by decide)) Us_nil)))) (L_seq (L_if (L_tand (L_test (L_notN (L_var (i := 7)))) (L_test (Lz_call (A_cons (L_fld (fa_rule T) (L_var (i := 0))) (A_cons (L_fld (fa_word T) (L_var (i := 0))) (A_cons (L_bin S_ix (L_var (i := 7)) L_int) (A_cons (L_var (i := 4)) A_nil))))))) (L_ret (L_tup (A_cons (L_var (i := 6)) (A_cons (L_tup (A_cons (L_bin S_ix (L_var (i := 7)) L_int) (A_cons (L_var (i := 5)) A_nil))) A_nil)))) L_next) (L_seq (L_set (Lz_meth (L_var (i := 0)) (A_cons (L_var (i := 1)) A_nil))) (L_ret (L_ifE (L_test (L_isN (L_var (i := 3)))) L_non (L_tup (A_cons (L_bin S_ix (L_var (i := 3)) L_int) (A_cons (L_tup (A_cons (L_var (i := 4)) (A_cons (L_var (i := 5)) A_nil))) A_nil)))))))))⟩)
theorem ok__next_tally (T : Txt K mg d) : FnR P w K mg base CX0 4 d.f__next_tally (spD0 K 4 4 (D__next_tally (cl d))) :=
  mkDz T.F__next_tally sc__next_tally (by decide) (fun _ _ _ _ _ _ us hl => match us, hl with | [_, _, _, _], _ => rfl) (fun cdv A outer s H E hr => by
    have hu := hr.units
    have hu5 := room5 hr
    exact ⟨_, (pss_one (ps_ret (pe_ifExp (pt_cmpR (op_eq2 (K := K) hu) (pv 3) pe_str (nomark _)) (DD.pe_methR (sp := spD0 K 3 5 (D_Maker_gone_on (cl d))) (pv 0) T.cl_Maker T.me_Maker_gone_on (ok_Maker_gone_on T) (hr.mono (by decide)) pass0 (pa_cons (pv 1) (pa_cons (pv 2) pa_nil))) (DD.pe_methR (sp := spD0 K 3 8 (D_Maker_started (cl d))) (pv 0) T.cl_Maker T.me_Maker_started (ok_Maker_started T) (hr.mono (by decide)) pass0 (pa_cons (pv 1) (pa_cons (pv 2) pa_nil)))))), (L_ret (L_ifE (L_test (L_bin S_eq (L_var (i := 3)) L_str)) (Lz_meth (L_var (i := 0)) (A_cons (L_var (i := 1)) (A_cons (L_var (i := 2)) A_nil))) (Lz_meth (L_var (i := 0)) (A_cons (L_var (i := 1)) (A_cons (L_var (i := 2)) A_nil)))))⟩)
end
end DD
set_option Elab.async false
set_option linter.all false
set_option maxRecDepth 100000
set_option maxHeartbeats 4000000
namespace DD
open PySem PySem.Spec PyProof.Rows L2 StX ClX DL
section
variable {P : Program} {w : World} {K : PySem.W.Frag} {mg : Str → Option Value} {base : Heap} {d : Ad}
theorem ok__next_pair (T : Txt K mg d) : FnR P w K mg base CX0 5 d.f__next_pair (spD0 K 5 10 (D__next_pair (cl d))) :=
  mkDz T.F__next_pair sc__next_pair (by decide) (fun _ _ _ _ _ _ us hl => match us, hl with | [_, _, _, _, _], _ => rfl) (fun cdv A outer s H E hr => by
    have hu := hr.units
    have hu5 := room5 hr
    exact ⟨_, (pss_cons (ps_asg (pv 0) (pg_tupK (K := K) (n := 2) rfl (pgs_cons (pg_name (i := 5) sc__next_pair.nd rfl (by first | exact Or.inl rfl | exact Or.inr rfl)) (pgs_cons (pg_name (i := 6) sc__next_pair.nd rfl (by first | exact Or.inl rfl | exact Or.inr rfl)) pgs_nil)))) (pss_cons (ps_asg (pv 1) (pg_tupK (K := K) (n := 2) rfl (pgs_cons (pg_name (i := 7) sc__next_pair.nd rfl (by first | exact Or.inl rfl | exact Or.inr rfl)) (pgs_cons (pg_name (i := 8) sc__next_pair.nd rfl (by first | exact Or.inl rfl | exact Or.inr rfl)) pgs_nil)))) (pss_cons (ps_if (pt_val (DD.pe_methR (sp := spD0 K 2 2 (D_Maker_takes (cl d))) (pv 5) T.cl_Maker T.me_Maker_takes (ok_Maker_takes T) (hr.mono (by decide)) pass0 (pa_cons (pv 4) pa_nil))) (pss_cons (ps_set (i := 9) sc__next_pair.nd rfl (by first | exact Or.inl rfl | exact Or.inr rfl) (pe_callR (sp := spD0 K 4 4 (D__next_tally (cl d))) (ok__next_tally T) (hr.mono (by decide)) rfl T.m__next_tally T.k__next_tally pass0 (pa_cons (pv 5) (pa_cons (pv 7) (pa_cons (pv 2) (pa_cons (pv 3) pa_nil)))))) (pss_one (ps_ret (pe_ifExp (pt_cmp (pc_isN (pv 9))) pe_non (pe_tup (pa_cons (pv 9) (pa_cons (pv 8) pa_nil))))))) pss_nil) (pss_cons (ps_if (pt_val (DD.pe_methR (sp := spD0 K 2 2 (D_Maker_takes (cl d))) (pv 6) T.cl_Maker T.me_Maker_takes (ok_Maker_takes T) (hr.mono (by decide)) pass0 (pa_cons (pv 4) pa_nil))) (pss_cons (ps_set (i := 9) sc__next_pair.nd rfl (by first | exact Or.inl rfl | exact Or.inr rfl) (pe_callR (sp := spD0 K 4 4 (D__next_tally (cl d))) (ok__next_tally T) (hr.mono (by decide)) rfl T.m__next_tally T.k__next_tally pass0 (pa_cons (pv 6) (pa_cons (pv 8) (pa_cons (pv 2) (pa_cons (pv 3) pa_nil)))))) (pss_one (ps_ret (pe_ifExp (pt_cmp (pc_isN (pv 9))) pe_non (pe_tup (pa_cons (pv 7) (pa_cons (pv 9) pa_nil))))))) pss_nil) (pss_one (ps_ret (pv 1))))))), (L_seq (L_tgt (vs := [5, 6]) (L_var (i := 0)) (U_tup (Us_cons (U_name (by decide)) (Us_cons (U_name (by decide)) Us_nil)))) (L_seq (L_tgt (vs := [7, 8]) (L_var (i := 1)) (U_tup (Us_cons (U_name (by decide)) (Us_cons (U_name (by decide)) Us_nil)))) (L_seq (L_if (L_test (Lz_meth (L_var (i := 5)) (A_cons (L_var (i := 4)) A_nil))) (L_seq (L_set (Lz_call (A_cons (L_var (i := 5)) (A_cons (L_var (i := 7)) (A_cons (L_var (i := 2)) (A_cons (L_var (i := 3)) A_nil)))))) (L_ret (L_ifE (L_test (L_isN (L_var (i := 9)))) L_non (L_tup (A_cons (L_var (i := 9)) (A_cons (L_var (i := 8)) A_nil)))))) L_next) (L_seq (L_if (L_test (Lz_meth (L_var (i := 6)) (A_cons (L_var (i := 4)) A_nil))) (L_seq (L_set (Lz_call (A_cons (L_var (i := 6)) (A_cons (L_var (i := 8)) (A_cons (L_var (i := 2)) (A_cons (L_var (i := 3)) A_nil)))))) (L_ret (L_ifE (L_test (L_isN (L_var (i := 9)))) L_non (L_tup (A_cons (L_var (i := 7)) (A_cons (L_var (i := 9)) A_nil)))))) L_next) (L_ret (L_var (i := 1)))))))⟩)
theorem ok_next_making (T : Txt K mg d) : FnR P w K mg base CX0 6 d.f_next_making (spD0 K 5 9 (D_next_making (cl d))) :=
  mkDz T.F_next_making sc_next_making (by decide) (fun _ _ _ _ _ _ us hl => match us, hl with | [_, _, _, _, _], _ => rfl) (fun cdv A outer s H E hr => by
    have hu := hr.units
    have hu5 := room5 hr
    exact ⟨_, (pss_cons (ps_if (pt_cmpR (op_eq2 (K := K) hu) (pv 3) pe_str (nomark _)) (pss_one (ps_ret (pv 1))) pss_nil) (pss_cons (ps_set (i := 5) sc_next_making.nd rfl (by first | exact Or.inl rfl | exact Or.inr rfl) (pe_lst pa_nil)) (pss_cons (ps_for PassesOwn.never rfl (pi_zipMK (K := K) rfl T.b_zip (pa_cons (pv 0) (pa_cons (pv 1) pa_nil))) (pg_tupK (K := K) (n := 2) rfl (pgs_cons (pg_name (i := 6) sc_next_making.nd rfl (by first | exact Or.inl rfl | exact Or.inr rfl)) (pgs_cons (pg_name (i := 7) sc_next_making.nd rfl (by first | exact Or.inl rfl | exact Or.inr rfl)) pgs_nil))) (pss_cons (ps_set (i := 8) sc_next_making.nd rfl (by first | exact Or.inl rfl | exact Or.inr rfl) (pe_callR (sp := spD0 K 5 10 (D__next_pair (cl d))) (ok__next_pair T) (hr.mono (by decide)) rfl T.m__next_pair T.k__next_pair pass0 (pa_cons (pv 6) (pa_cons (pv 7) (pa_cons (pv 2) (pa_cons (pv 3) (pa_cons (pv 4) pa_nil))))))) (pss_cons (ps_if (pt_cmp (pc_isN (pv 8))) (pss_one (ps_ret pe_non)) pss_nil) (pss_one (ps_expr (pe_bm PySem.F.plainAttrs_list PySem.F.slot_list_append PySem.F.type_list_append mt_append (pv 5) (pa_cons (pv 8) pa_nil))))))) (pss_one (ps_ret (pe_callTy call_tuple_of rfl T.b_tuple (by decide +kernel) (pa_cons (pv 5) pa_nil))))))), (L_seq (L_if (L_test (L_bin S_eq (L_var (i := 3)) L_str)) (L_ret (L_var (i := 1))) L_next) (L_seq (L_set (L_lst A_nil)) (L_seq (L_for (vs := [6, 7]) (I_zipM (A_cons (L_var (i := 0)) (A_cons (L_var (i := 1)) A_nil))) (U_tup (Us_cons (U_name (by decide)) (Us_cons (U_name (by decide)) Us_nil))) (L_seq (L_set (Lz_call (A_cons (L_var (i := 6)) (A_cons (L_var (i := 7)) (A_cons (L_var (i := 2)) (A_cons (L_var (i := 3)) (A_cons (L_var (i := 4)) A_nil))))))) (L_seq (L_if (L_test (L_isN (L_var (i := 8)))) (L_ret L_non) L_next) (L_drop (L_mut (i := 5) M_append (A_cons (L_var (i := 8)) A_nil)))))) (L_ret (L_cb C_tuple (A_cons (L_var (i := 5)) A_nil))))))⟩)
theorem ok_next_standing (T : Txt K mg d) : FnR P w K mg base CX0 7 d.f_next_standing (spD0 K 5 11 (D_next_standing (cl d))) :=
  mkDz T.F_next_standing sc_next_standing (by decide) (fun _ _ _ _ _ _ us hl => match us, hl with | [_, _, _, _, _], _ => rfl) (fun cdv A outer s H E hr => by
    have hu := hr.units
    have hu5 := room5 hr
    exact ⟨_, (pss_cons (ps_asg (pv 3) (pg_tupK (K := K) (n := 4) rfl (pgs_cons (pg_name (i := 7) sc_next_standing.nd rfl (by first | exact Or.inl rfl | exact Or.inr rfl)) (pgs_cons (pg_name (i := 8) sc_next_standing.nd rfl (by first | exact Or.inl rfl | exact Or.inr rfl)) (pgs_cons (pg_name (i := 9) sc_next_standing.nd rfl (by first | exact Or.inl rfl | exact Or.inr rfl)) (pgs_cons (pg_name (i := 10) sc_next_standing.nd rfl (by first | exact Or.inl rfl | exact Or.inr rfl)) pgs_nil)))))) (pss_cons (ps_set (i := 5) sc_next_standing.nd rfl (by first | exact Or.inl rfl | exact Or.inr rfl) (pe_callR (sp := spD0 K 3 6 (D_next_head (cl d))) (ok_next_head T) (hr.mono (by decide)) rfl T.m_next_head T.k_next_head pass0 (pa_cons (pv 0) (pa_cons (pe_tup (pa_cons (pv 7) (pa_cons (pv 8) (pa_cons (pv 9) pa_nil)))) (pa_cons (pv 4) pa_nil))))) (pss_cons (ps_if (pt_cmp (pc_isN (pv 5))) (pss_one (ps_ret pe_non)) pss_nil) (pss_cons (ps_set (i := 6) sc_next_standing.nd rfl (by first | exact Or.inl rfl | exact Or.inr rfl) (pe_callR (sp := spD0 K 5 9 (D_next_making (cl d))) (ok_next_making T) (hr.mono (by decide)) rfl T.m_next_making T.k_next_making pass0 (pa_cons (pv 1) (pa_cons (pv 10) (pa_cons (pv 2) (pa_cons (pv 4) (pa_cons (pe_ifExp (pt_cmpR (op_eq2 (K := K) hu) (pv 4) pe_str (nomark _)) (pv 7) (pv 4)) pa_nil))))))) (pss_one (ps_ret (pe_ifExp (pt_cmp (pc_isN (pv 6))) pe_non (pe_tup (pa_starK (K := K) (pv 5) (pa_cons (pv 6) pa_nil)))))))))), (L_seq (L_tgt (vs := [7, 8, 9, 10]) (L_var (i := 3)) (U_tup (Us_cons (U_name (by decide)) (Us_cons (U_name (by decide)) (Us_cons (U_name (by decide)) (Us_cons (U_name (by decide)) Us_nil)))))) (L_seq (L_set (Lz_call (A_cons (L_var (i := 0)) (A_cons (L_tup (A_cons (L_var (i := 7)) (A_cons (L_var (i := 8)) (A_cons (L_var (i := 9)) A_nil)))) (A_cons (L_var (i := 4)) A_nil))))) (L_seq (L_if (L_test (L_isN (L_var (i := 5)))) (L_ret L_non) L_next) (L_seq (L_set (Lz_call (A_cons (L_var (i := 1)) (A_cons (L_var (i := 10)) (A_cons (L_var (i := 2)) (A_cons (L_var (i := 4)) (A_cons (L_ifE (L_test (L_bin S_eq (L_var (i := 4)) L_str)) (L_var (i := 7)) (L_var (i := 4))) A_nil))))))) (L_ret (L_ifE (L_test (L_isN (L_var (i := 6)))) L_non (L_tup (A_star (L_var (i := 5)) (A_cons (L_var (i := 6)) A_nil)))))))))⟩)
theorem ok_after (T : Txt K mg d) : FnR P w K mg base CX0 8 d.f_after (spD0 K 5 5 (D_after (cl d))) :=
  mkDz T.F_after sc_after (by decide) (fun _ _ _ _ _ _ us hl => match us, hl with | [_, _, _, _, _], _ => rfl) (fun cdv A outer s H E hr => by
    have hu := hr.units
    have hu5 := room5 hr
    exact ⟨_, (pss_cons (ps_expr (pe_callR (sp := spD0 K 1 3 (D_check_looks (cl d))) (ok_check_looks T) (hr.mono (by decide)) rfl T.m_check_looks T.k_check_looks pass0 (pa_cons (pv 1) pa_nil))) (pss_cons (ps_if (pt_not (pt_val (pe_callR (sp := spD0 K 3 6 (D_is_let (cl d))) (ok_is_let T) (hr.mono (by decide)) rfl T.m_is_let T.k_is_let pass0 (pa_cons (pv 0) (pa_cons (pv 2) (pa_cons (pv 4) pa_nil)))))) (pss_one (ps_ret pe_non)) pss_nil) (pss_one (ps_ret (pe_callR (sp := spD0 K 5 11 (D_next_standing (cl d))) (ok_next_standing T) (hr.mono (by decide)) rfl T.m_next_standing T.k_next_standing pass0 (pa_cons (pv 0) (pa_cons (pe_callR (sp := spD0 K 1 3 (D_make_makers (cl d))) (ok_make_makers T) (hr.mono (by decide)) rfl T.m_make_makers T.k_make_makers pass0 (pa_cons (pv 1) pa_nil)) (pa_cons (pv 2) (pa_cons (pv 3) (pa_cons (pv 4) pa_nil)))))))))), (L_seq (L_drop (Lz_call (A_cons (L_var (i := 1)) A_nil))) (L_seq (L_if (L_tnot (L_test (Lz_call (A_cons (L_var (i := 0)) (A_cons (L_var (i := 2)) (A_cons (L_var (i := 4)) A_nil)))))) (L_ret L_non) L_next) (L_ret (Lz_call (A_cons (L_var (i := 0)) (A_cons (Lz_call (A_cons (L_var (i := 1)) A_nil)) (A_cons (L_var (i := 2)) (A_cons (L_var (i := 3)) (A_cons (L_var (i := 4)) A_nil)))))))))⟩)
theorem ok_first_standing (T : Txt K mg d) : FnR P w K mg base CX0 1 d.f_first_standing (spD0 K 1 2 (D_first_standing (cl d))) :=
  mkDz T.F_first_standing sc_first_standing (by decide) (fun _ _ _ _ _ _ us hl => match us, hl with | [_], _ => rfl) (fun cdv A outer s H E hr => by
    have hu := hr.units
    have hu5 := room5 hr
    exact ⟨_, (pss_one (ps_ret (pe_tup (pa_starK (K := K) (pe_glob (v := .ref d.c_FIRST_HEAD) rfl T.m_FIRST_HEAD rfl) (pa_cons (pe_callTy call_tuple_of rfl T.b_tuple (by decide +kernel) (pa_cons (pe_lc (own := [("_", 1)]) rfl sc_first_standing.nd (pi_seq (K := K) (pv 0)) (blkOk_by (N := ["looks", "_"]) (sc := defScope s_first_standing) (by decide +kernel)) (fun _ _ _ _ _ => (pg_name (i := 1) sc_first_standing.nd rfl (by first | exact Or.inl rfl | exact Or.inr rfl))) (fun _ _ _ _ _ => pts_nil) (fun _ _ _ _ _ => (pe_tup (pa_cons (pe_glob (v := .ref d.c_FIRST_TALLY) rfl T.m_FIRST_TALLY rfl) (pa_cons (pe_glob (v := .ref d.c_FIRST_TALLY) rfl T.m_FIRST_TALLY rfl) pa_nil))))) pa_nil)) pa_nil))))), (L_ret (L_tup (A_star (L_c (rp_FIRST_HEAD T)) (A_cons (L_cb C_tuple (A_cons (L_lcS (Et := E0) (Ea := E0) (L_var (i := 0)) (U_name (by decide)) L_yes (L_tup (A_cons (L_c (rp_FIRST_TALLY T)) (A_cons (L_c (rp_FIRST_TALLY T)) A_nil)))) A_nil)) A_nil))))⟩)
theorem ok_begun (T : Txt K mg d) : FnR P w K mg base CX0 7 d.f_begun (spD0 K 2 2 (D_begun (cl d))) :=
  mkDz T.F_begun sc_begun (by decide) (fun _ _ _ _ _ _ us hl => match us, hl with | [_, _], _ => rfl) (fun cdv A outer s H E hr => by
    have hu := hr.units
    have hu5 := room5 hr
    exact ⟨_, (pss_cons (ps_expr (pe_callR (sp := spD0 K 1 3 (D_check_looks (cl d))) (ok_check_looks T) (hr.mono (by decide)) rfl T.m_check_looks T.k_check_looks pass0 (pa_cons (pv 1) pa_nil))) (pss_one (ps_ret (pe_callR (sp := spD0 K 1 2 (D_first_standing (cl d))) (ok_first_standing T) (hr.mono (by decide)) rfl T.m_first_standing T.k_first_standing pass0 (pa_cons (pv 1) pa_nil))))), (L_seq (L_drop (Lz_call (A_cons (L_var (i := 1)) A_nil))) (L_ret (Lz_call (A_cons (L_var (i := 1)) A_nil))))⟩)
end
end DD
set_option linter.all false
set_option maxRecDepth 100000
set_option maxHeartbeats 1000000
namespace DL
open PySem PySem.Spec PyProof.Rows L2 DD
section
variable {α β : Type} {ρ : En}
@[simp] theorem r_bind_ok {a : α} {U : α → En → Res β} : (Res.ok a ρ).bind U = U a ρ := rfl
@[simp] theorem r_bind_st {U : α → En → Res β} : (Res.stuck : Res α).bind U = .stuck := rfl
@[simp] theorem r_sb_ok {a : α} {U : α → En → SR} : (Res.ok a ρ).sb U = U a ρ := rfl
@[simp] theorem r_sb_st {U : α → En → SR} : (Res.stuck : Res α).sb U = .stuck := rfl
end
@[simp] theorem q_dVar {i : Nat} {ρ : En} : dVar i ρ = (match ρ[i]? with
  | some (.val d) => .ok (.val d) ρ
  | some (.own _) | some (.bor _) | some (.lck _) => .ok (.own i) ρ
  | _ => .stuck) := rfl
@[simp] theorem q_dC {d : D} {ρ : En} : dC d ρ = (.ok (.val d) ρ) := rfl
@[simp] theorem q_dBin {op : D2} {A B : En → Res X} {ρ : En} : dBin op A B ρ = ((A ρ).bind fun a ρ1 => (B ρ1).bind fun b ρ2 => ap2 op a.settle b ρ2) := rfl
@[simp] theorem q_dIsN {A : En → Res X} {ρ : En} : dIsN A ρ = ((A ρ).bind fun a ρ1 => match deref ρ1 a with
  | some d => .ok (.val (.bl d.isNon)) ρ1
  | none => .stuck) := rfl
@[simp] theorem q_dNotN {A : En → Res X} {ρ : En} : dNotN A ρ = ((A ρ).bind fun a ρ1 => match deref ρ1 a with
  | some d => .ok (.val (.bl !d.isNon)) ρ1
  | none => .stuck) := rfl
@[simp] theorem q_dTest {A : En → Res X} {ρ : En} : dTest A ρ = ((A ρ).bind fun a ρ1 => lift (asB ρ1 a) ρ1) := rfl
@[simp] theorem q_dNot {A : En → Res X} {ρ : En} : dNot A ρ = ((A ρ).bind fun a ρ1 => lift ((asB ρ1 a).map fun b => X.val (.bl !b)) ρ1) := rfl
@[simp] theorem q_dAnd {A B : En → Res X} {ρ : En} : dAnd A B ρ = ((A ρ).bind fun a ρ1 => match asB ρ1 a with
  | some true => B ρ1
  | some false => .ok (.val (.bl false)) ρ1
  | none => .stuck) := rfl
@[simp] theorem q_dOr {A B : En → Res X} {ρ : En} : dOr A B ρ = ((A ρ).bind fun a ρ1 => match asB ρ1 a with
  | some false => B ρ1
  | some true => .ok (.val (.bl true)) ρ1
  | none => .stuck) := rfl
@[simp] theorem q_tnd {T U : En → Res Bool} {ρ : En} : tnd T U ρ = ((T ρ).bind fun a ρ1 => match a with
  | true => U ρ1
  | false => .ok false ρ1) := rfl
@[simp] theorem q_tor {T U : En → Res Bool} {ρ : En} : tor T U ρ = ((T ρ).bind fun a ρ1 => match a with
  | true => .ok true ρ1
  | false => U ρ1) := rfl
@[simp] theorem q_tnot {T : En → Res Bool} {ρ : En} : tnot T ρ = ((T ρ).bind fun a ρ1 => .ok (!a) ρ1) := rfl
@[simp] theorem q_dIfE {T : En → Res Bool} {A B : En → Res X} {ρ : En} : dIfE T A B ρ = ((T ρ).bind fun a ρ1 => match a with
  | true => A ρ1
  | false => B ρ1) := rfl
@[simp] theorem q_dChain {op op' : D2} {A B C : En → Res X} {ρ : En} : dChain op op' A B C ρ = ((A ρ).bind fun a ρ1 => (B ρ1).bind fun b ρ2 => (ap2 op a.settle b.settle ρ2).bind fun z ρ3 => match asB ρ3 z with
  | some true => (C ρ3).bind fun c ρ4 => ap2 op' b.settle c ρ4
  | some false => .ok (.val (.bl false)) ρ3
  | none => .stuck) := rfl
@[simp] theorem q_aNil  {ρ : En} : aNil  ρ = (.ok [] ρ) := rfl
@[simp] theorem q_aCons {A : En → Res X} {T : En → Res (List X)} {ρ : En} : aCons A T ρ = ((A ρ).bind fun a ρ1 => (T ρ1).bind fun as ρ2 => .ok (a.settle :: as) ρ2) := rfl
@[simp] theorem q_dTup {T : En → Res (List X)} {ρ : En} : dTup T ρ = ((T ρ).bind fun xs ρ1 => match toVals ρ1 xs with
  | some (ds, ρ2) => if ds.length ≤ sizeLine then .ok (.val (.tup ds)) ρ2 else .stuck
  | none => .stuck) := rfl
@[simp] theorem q_dLst {T : En → Res (List X)} {ρ : En} : dLst T ρ = ((T ρ).bind fun xs ρ1 => match toVals ρ1 xs with
  | some (ds, ρ2) => if ds.length ≤ sizeLine then .ok (.new (.lst ds)) ρ2 else .stuck
  | none => .stuck) := rfl
@[simp] theorem q_oNone  {ρ : En} : oNone  ρ = (.ok none ρ) := rfl
@[simp] theorem q_oSome {A : En → Res X} {ρ : En} : oSome A ρ = ((A ρ).bind fun a ρ1 => lift ((asI ρ1 a).map some) ρ1) := rfl
@[simp] theorem q_dSl {A : En → Res X} {L U : En → Res (Option Int)} {ρ : En} : dSl A L U ρ = ((A ρ).bind fun a ρ1 => (L ρ1).bind fun lo ρ2 => (U ρ2).bind fun hi ρ3 => match deref ρ3 a.settle with
  | some d => lift (opSl d lo hi) ρ3
  | none => .stuck) := rfl
@[simp] theorem q_dCB {f : List D → Option X} {T : En → Res (List X)} {ρ : En} : dCB f T ρ = ((T ρ).bind (apN f)) := rfl
@[simp] theorem q_g1 {A : En → Res X} {ρ : En} : g1 A ρ = ((A ρ).bind fun a ρ1 => lift ((asI ρ1 a).map fun n => (0, n)) ρ1) := rfl
@[simp] theorem q_g2 {A B : En → Res X} {ρ : En} : g2 A B ρ = ((A ρ).bind fun a ρ1 => (B ρ1).bind fun b ρ2 => match asI ρ2 a.settle, asI ρ2 b with
  | some i, some j => .ok (i, j) ρ2
  | _, _ => .stuck) := rfl
@[simp] theorem q_dFmt {A : En → Res X} {ρ : En} : dFmt A ρ = ((A ρ).bind fun a ρ1 => match deref ρ1 a with
  | some d => lift ((fmtD d).map fun s => X.val (.str s)) ρ1
  | none => .stuck) := rfl
@[simp] theorem q_jNil  {acc : Str} {ρ : En} : jNil  acc ρ = (.ok acc ρ) := rfl
@[simp] theorem q_jCons {A : En → Res X} {J : Str → En → Res Str} {acc : Str} {ρ : En} : jCons A J acc ρ = ((A ρ).bind fun a ρ1 => match deref ρ1 a with
  | some (.str y) => if (acc ++ y).length ≤ sizeLine then J (acc ++ y) ρ1 else .stuck
  | _ => .stuck) := rfl
@[simp] theorem q_dJoin {J : Str → En → Res Str} {ρ : En} : dJoin J ρ = ((J Str.empty ρ).bind fun s ρ1 => .ok (.val (.str s)) ρ1) := rfl
@[simp] theorem q_dMt {f : D → List D → Option X} {A : En → Res X} {T : En → Res (List X)} {ρ : En} : dMt f A T ρ = ((A ρ).bind fun a ρ1 => match deref ρ1 a with
  | some (.str s) => (T ρ1).bind fun xs ρ2 => match derefs ρ2 xs with
    | some ds => lift (f (.str s) ds) ρ2
    | none => .stuck
  | _ => .stuck) := rfl
@[simp] theorem q_sNext  {ρ : En} : sNext  ρ = (.nx ρ) := rfl
@[simp] theorem q_sSeq {S U : En → SR} {ρ : En} : sSeq S U ρ = (match S ρ with
  | .nx ρ1 => U ρ1
  | r => r) := rfl
@[simp] theorem q_sDrop {A : En → Res X} {ρ : En} : sDrop A ρ = ((A ρ).sb fun _ ρ1 => .nx ρ1) := rfl
@[simp] theorem q_sRet {A : En → Res X} {ρ : En} : sRet A ρ = ((A ρ).sb fun a ρ1 => .rt a ρ1) := rfl
@[simp] theorem q_sRetN  {ρ : En} : sRetN  ρ = (.rt (.val .non) ρ) := rfl
@[simp] theorem q_sBreak  {ρ : En} : sBreak  ρ = (.bk ρ) := rfl
@[simp] theorem q_sCont  {ρ : En} : sCont  ρ = (.ct ρ) := rfl
@[simp] theorem q_sIf {T : En → Res Bool} {S U : En → SR} {ρ : En} : sIf T S U ρ = ((T ρ).sb fun b ρ1 => match b with
  | true => S ρ1
  | false => U ρ1) := rfl
@[simp] theorem q_sSet {i : Nat} {A : En → Res X} {ρ : En} : sSet i A ρ = ((A ρ).sb fun a ρ1 => putX i a ρ1) := rfl
@[simp] theorem q_sTgt {U : Tg} {A : En → Res X} {ρ : En} : sTgt U A ρ = ((A ρ).sb fun a ρ1 => match toVal ρ1 a with
  | some (d, ρ2) => match U d ρ2 with
    | some ρ3 => .nx ρ3
    | none => .stuck
  | none => .stuck) := rfl
@[simp] theorem q_eMut {i : Nat} {f : Mu} {T : En → Res (List X)} {ρ : En} : eMut i f T ρ = (match lstAt ρ i with
  | none => .stuck
  | some _ => (T ρ).bind fun xs ρ1 => match toVals ρ1 xs with
    | none => .stuck
    | some (as, ρ2) => match lstAt ρ2 i with
      | none => .stuck
      | some ds => match f ds as with
        | none => .stuck
        | some (z, ds') => .ok (.val z) (setAt ρ2 i ds')) := rfl
@[simp] theorem q_sPut {i : Nat} {A B : En → Res X} {ρ : En} : sPut i A B ρ = ((A ρ).sb fun a ρ1 => match toVal ρ1 a with
  | none => .stuck
  | some (d, ρ2) => match lstAt ρ2 i with
    | none => .stuck
    | some _ => (B ρ2).sb fun b ρ3 => match asI ρ3 b, lstAt ρ3 i with
      | some k, some ds => match ixN ds.length k with
        | some j => .nx (setAt ρ3 i (ds.set j d))
        | none => .stuck
      | _, _ => .stuck) := rfl
@[simp] theorem q_dFld {Cs : List Addr} {f : Str} {A : En → Res X} {ρ : En} : dFld Cs f A ρ = ((A ρ).bind fun a ρ1 => match deref ρ1 a with
  | some (.ins C ks ds) => if C ∈ Cs then lift ((getF f ks ds).map X.val) ρ1 else .stuck
  | _ => .stuck) := rfl
@[simp] theorem q_sFldD {Cs : List Addr} {i : Nat} {f : Str} {A : En → Res X} {ρ : En} : sFldD Cs i f A ρ = ((A ρ).sb fun a ρ1 => match toVal ρ1 a with
  | none => .stuck
  | some (d, ρ2) => match insAt ρ2 i with
    | some (C, ks, ds) => if C ∈ Cs ∧ ks.length < 1000 then .nx (setIns ρ2 i (.ins C (putFD f d ks ds).1 (putFD f d ks ds).2)) else .stuck
    | none => .stuck) := rfl
@[simp] theorem q_nCons {A : En → Res X} {T : En → Res (List X)} {ρ : En} : nCons A T ρ = ((A ρ).bind fun a ρ1 => match a with
  | .own j => match toVal ρ1 (.own j) with
    | some (d, ρ2) => (T ρ2).bind fun as ρ3 => .ok (.val d :: as) ρ3
    | none => .stuck
  | a => (T ρ1).bind fun as ρ2 => .ok (a :: as) ρ2) := rfl
@[simp] theorem q_sMulti {is : List Nat} {T : En → Res (List X)} {ρ : En} : sMulti is T ρ = ((T ρ).sb fun xs ρ1 => puts is xs ρ1) := rfl
@[simp] theorem q_dRng1 {A : En → Res X} {ρ : En} : dRng1 A ρ = ((A ρ).bind fun a ρ1 => match asI ρ1 a with
  | some j => if -(2 ^ 62) ≤ j ∧ j < 2 ^ 62 then .ok ((List.range j.toNat).map fun i => D.int (0 + (i : Nat))) ρ1 else .stuck
  | none => .stuck) := rfl
@[simp] theorem q_dRng2 {A B : En → Res X} {ρ : En} : dRng2 A B ρ = ((A ρ).bind fun a ρ1 => (B ρ1).bind fun b ρ2 => match asI ρ2 a.settle, asI ρ2 b with
  | some i, some j => if -(2 ^ 62) ≤ i ∧ i < 2 ^ 62 ∧ -(2 ^ 62) ≤ j ∧ j < 2 ^ 62 then .ok ((List.range (j - i).toNat).map fun n => D.int (i + (n : Nat))) ρ2 else .stuck
  | _, _ => .stuck) := rfl
@[simp] theorem q_sFor {S : En → Res (List D)} {U : Tg} {B : En → SR} {ρ : En} : sFor S U B ρ = ((S ρ).sb fun ds ρ1 => forL U B ds ρ1) := rfl
@[simp] theorem q_sForS {A : En → Res X} {U : Tg} {B : En → SR} {ρ : En} : sForS A U B ρ = ((seqOf A ρ).sb fun p ρ1 => match p.1 with
  | none => forL U B p.2 ρ1
  | some i => (forL U B p.2 ρ1).unlock i) := rfl
@[simp] theorem q_dLc {S : En → Res (List D)} {vs : List Nat} {U : Tg} {T : En → Res Bool} {A : En → Res X} {ρ : En} : dLc S vs U T A ρ = ((S ρ).bind fun ds ρ1 => lcAll vs U T A ds ρ1) := rfl
@[simp] theorem q_tdYes  {ρ : En} : tdYes  ρ = (.ok true ρ) := rfl
@[simp] theorem q_dLcS {A0 : En → Res X} {vs : List Nat} {U : Tg} {T : En → Res Bool} {A : En → Res X} {ρ : En} : dLcS A0 vs U T A ρ = ((seqOf A0 ρ).bind fun p ρ1 => match p.1 with
  | none => lcAll vs U T A p.2 ρ1
  | some i => (lcAll vs U T A p.2 ρ1).unlock i) := rfl
@[simp] theorem q_dCall {n m : Nat} {T : En → SR} {A : En → Res (List X)} {ρ : En} : dCall n m T A ρ = ((A ρ).bind fun xs ρ1 => match toVals ρ1 xs with
  | some (ds, ρ2) => if ds.length = n then callV (fin (T (env0 m (ds.map .val)))) ρ2 else .stuck
  | none => .stuck) := rfl
@[simp] theorem q_dCallB {n m : Nat} {T : En → SR} {i : Nat} {A : En → Res (List X)} {ρ : En} : dCallB n m T i A ρ = ((A ρ).bind fun xs ρ1 => match toVals ρ1 xs with
  | some (ds, ρ2) => match coAt ρ2 i with
    | some o => if ds.length + 1 = n then callB (fin (T (env0 m (.bor o :: ds.map .val)))) i ρ2 else .stuck
    | none => .stuck
  | none => .stuck) := rfl
@[simp] theorem q_dMeth {C : Addr} {f : Str} {n m : Nat} {T : En → SR} {A : En → Res X} {B : En → Res (List X)} {ρ : En} : dMeth C f n m T A B ρ = ((A ρ).bind fun a ρ1 => match toVal ρ1 a with
  | some (.ins C' ks es, ρ2) => if C' = C ∧ noF f ks = true then (B ρ2).bind fun xs ρ3 => match toVals ρ3 xs with
      | some (ds, ρ4) => if ds.length + 1 = n then callV (fin (T (env0 m ((D.ins C' ks es :: ds).map .val)))) ρ4 else .stuck
      | none => .stuck
    else .stuck
  | _ => .stuck) := rfl
@[simp] theorem q_dProp {C : Addr} {m : Nat} {T : En → SR} {A : En → Res X} {ρ : En} : dProp C m T A ρ = ((A ρ).bind fun a ρ1 => match toVal ρ1 a with
  | some (.ins C' ks es, ρ2) => if C' = C then callV (fin (T (env0 m [.val (D.ins C' ks es)]))) ρ2 else .stuck
  | _ => .stuck) := rfl
@[simp] theorem q_dMake {C : Addr} {n m : Nat} {T : En → SR} {A : En → Res (List X)} {ρ : En} : dMake C n m T A ρ = ((A ρ).bind fun xs ρ1 => match toVals ρ1 xs with
  | some (ds, ρ2) => if ds.length + 1 = n then makeV (fin (T (env0 m (.bor (.ins C [] []) :: ds.map .val)))) ρ2 else .stuck
  | none => .stuck) := rfl
@[simp] theorem q_dIsi {kt : Kit} {Cs : List Addr} {us : List Value} {A : En → Res X} {ρ : En} : dIsi kt Cs us A ρ = ((A ρ).bind fun a ρ1 => match deref ρ1 a with
  | some d => if d.tyOk Cs = true then lift ((anyK kt d.ty us).map fun b => X.val (.bl b)) ρ1 else .stuck
  | none => .stuck) := rfl
@[simp] theorem q_dStrO {C : Addr} {m : Nat} {T : En → SR} {A : En → Res X} {ρ : En} : dStrO C m T A ρ = ((A ρ).bind fun a ρ1 => match toVal ρ1 a with
  | some (.ins C' ks es, ρ2) => if C' = C then callP xStr (fin (T (env0 m [.val (D.ins C' ks es)]))) ρ2 else .stuck
  | _ => .stuck) := rfl
@[simp] theorem q_dLenO {C : Addr} {m : Nat} {T : En → SR} {A : En → Res X} {ρ : En} : dLenO C m T A ρ = ((A ρ).bind fun a ρ1 => match toVal ρ1 a with
  | some (.ins C' ks es, ρ2) => if C' = C then callP xLen (fin (T (env0 m [.val (D.ins C' ks es)]))) ρ2 else .stuck
  | _ => .stuck) := rfl
@[simp] theorem q_dEqO {p : X → Option X} {C : Addr} {m : Nat} {T : En → SR} {A B : En → Res X} {ρ : En} : dEqO p C m T A B ρ = ((A ρ).bind fun a ρ1 => (B ρ1).bind fun b ρ2 => match toVal ρ2 a.settle with
  | some (.ins C' ks es, ρ3) => match toVal ρ3 b.settle with
    | some (.ins C'' ks' es', ρ4) => if C' = C ∧ C'' = C then callP p (fin (T (env0 m [.val (D.ins C' ks es), .val (D.ins C'' ks' es')]))) ρ4 else .stuck
    | _ => .stuck
  | _ => .stuck) := rfl
@[simp] theorem q_dLc2 {S : En → Res (List D)} {vs vs1 : List Nat} {U : Tg} {T : En → Res Bool} {S1 : En → Res (List D)} {U1 : Tg} {T1 : En → Res Bool} {A : En → Res X} {ρ : En} : dLc2 S vs vs1 U T S1 U1 T1 A ρ = ((S ρ).bind fun ds ρ1 => if vs.all (freeAt ρ1) = true then
    match lc2L vs vs1 U T S1 U1 T1 A ds (wipeN ρ1 vs) [] with
    | .ok es ρ2 => .ok (.new (.lst es)) ρ2
    | _ => .stuck
  else .stuck) := rfl
@[simp] theorem q_dUn {f : D → Option X} {A : En → Res X} {ρ : En} : dUn f A ρ = ((A ρ).bind fun a ρ1 => match deref ρ1 a with
  | some d => lift (f d) ρ1
  | none => .stuck) := rfl
@[simp] theorem q_dLend {n m : Nat} {T : En → SR} {i : Nat} {A : En → Res (List X)} {ρ : En} : dLend n m T i A ρ = (if (coAt ρ i).isSome then dCallB n m T i A ρ else .stuck) := rfl
@[simp] theorem q_dCMeth {C : Addr} {n m : Nat} {T : En → SR} {B : En → Res (List X)} {ρ : En} : dCMeth C n m T B ρ = ((B ρ).bind fun xs ρ1 => match toVals ρ1 xs with
  | some (ds, ρ2) => if ds.length + 1 = n then callV (fin (T (env0 m ((D.cls C :: ds).map .val)))) ρ2 else .stuck
  | none => .stuck) := rfl
@[simp] theorem q_dMakeL {C : Addr} {i n m : Nat} {T : En → SR} {A : En → Res (List X)} {ρ : En} : dMakeL C i n m T A ρ = (match ρ[i]? with
  | some (.val (.cls C')) => if C' = C then dMake C n m T A ρ else .stuck
  | _ => .stuck) := rfl
@[simp] theorem q_dSeqI {A : En → Res X} {ρ : En} : dSeqI A ρ = ((A ρ).bind fun a ρ1 => match a with
  | .val d => lift d.items ρ1
  | .new o => lift o.d.items ρ1
  | .own i => match ρ1[i]? with
    | some (.val d) => lift d.items ρ1
    | _ => .stuck) := rfl
@[simp] theorem w_eq_i {i j : Int} : eqB (.int i) (.int j) = some (decide (i = j)) := rfl
@[simp] theorem w_eq_s {i j : Str} : eqB (.str i) (.str j) = some (decide (i = j)) := rfl
@[simp] theorem w_eq_b {i j : Bool} : eqB (.bl i) (.bl j) = some (decide (i = j)) := rfl
@[simp] theorem w_eq_n : eqB .non .non = some true := rfl
section
variable {d : D} {o : O}
@[simp] theorem w_free_v : (Slot.val d).free = true := rfl
@[simp] theorem w_free_n : Slot.none.free = true := rfl
@[simp] theorem w_free_o : (Slot.own o).free = true := rfl
@[simp] theorem w_free_b : (Slot.bor o).free = false := rfl
@[simp] theorem w_free_l : (Slot.lck o).free = false := rfl
@[simp] theorem w_dd_v : (Slot.val d).dd = some d := rfl
@[simp] theorem w_dd_o : (Slot.own o).dd = some o.d := rfl
@[simp] theorem w_dd_b : (Slot.bor o).dd = some o.d := rfl
@[simp] theorem w_dd_l : (Slot.lck o).dd = some o.d := rfl
@[simp] theorem w_co_o : (Slot.own o).co = some o := rfl
@[simp] theorem w_co_b : (Slot.bor o).co = some o := rfl
end
section
variable {α : Type} {ρ : En} {d : D} {o : O} {i : Nat} {x : X}
@[simp] theorem w_fin_nx : fin (.nx ρ) = .ok (.val .non) ρ := rfl
@[simp] theorem w_fin_v : fin (.rt (.val d) ρ) = .ok (.val d) ρ := rfl
@[simp] theorem w_fin_n : fin (.rt (.new o) ρ) = .ok (.new o) ρ := rfl
@[simp] theorem w_fin_o : fin (.rt (.own i) ρ) = (match ρ[i]? with
    | some (.val d) => .ok (.val d) ρ
    | some (.own o) => .ok (.new o) ρ
    | _ => .stuck) := rfl
@[simp] theorem w_set_v : (X.val d).settle = .val d := rfl
@[simp] theorem w_set_n : (X.new o).settle = .val o.d := rfl
@[simp] theorem w_set_o : (X.own i).settle = .own i := rfl
@[simp] theorem w_O_lst {ds : List D} : (O.lst ds).d = .lst ds := rfl
@[simp] theorem w_O_ins {C : Addr} {ks : List Str} {ds : List D} : (O.ins C ks ds).d = .ins C ks ds := rfl
@[simp] theorem w_der_v : deref ρ (.val d) = some d := rfl
@[simp] theorem w_der_n : deref ρ (.new o) = some o.d := rfl
@[simp] theorem w_der_o : deref ρ (.own i) = ρ[i]?.bind Slot.dd := rfl
@[simp] theorem w_tv_v : toVal ρ (.val d) = some (d, ρ) := rfl
@[simp] theorem w_tv_n : toVal ρ (.new o) = some (o.d, ρ) := rfl
@[simp] theorem w_tv_o : toVal ρ (.own i) = (match ρ[i]? with
    | some (.val d) => some (d, ρ)
    | some (.own o) => some (o.d, ρ.set i (.val o.d))
    | _ => none) := rfl
@[simp] theorem w_lift_s {a : α} : lift (some a) ρ = .ok a ρ := rfl
@[simp] theorem w_lift_n : lift (none : Option α) ρ = .stuck := rfl
@[simp] theorem w_callP {p : X → Option X} {ρ' : En} : callP p (.ok x ρ') ρ = lift (p x) ρ := rfl
@[simp] theorem w_make {ρ' : En} (h : ρ'[0]? = some (.bor o)) : makeV (.ok (.val .non) ρ') ρ = .ok (.new o) ρ := by
  simp only [makeV, h]
end
@[simp] theorem sl_eq : (sizeLine : Nat) = 16777216 := sizeLine_eq
/-- what a def hands back -/
@[simp] def resV : Rt → Option X
  | .ok x _ => some x
  | _ => none
/-- .. and what was lent -/
@[simp] def resB : Rt → Option (X × O)
  | .ok x ρ => match (ρ[0]? : Option Slot) with
    | some (.bor o) => some (x, o)
    | _ => none
  | _ => none
def Gives (m : Nat) (T : En → SR) (ds : List D) (x : X) : Prop := resV (fin (T (env0 m (ds.map .val)))) = some x
def GivesB (m : Nat) (T : En → SR) (o : O) (ds : List D) (x : X) (o' : O) : Prop := resB (fin (T (env0 m (.bor o :: ds.map .val)))) = some (x, o')
open Classical in
@[simp] theorem q_dLstRg {T : En → Res (Int × Int)} {ρ : En} : dLstRg T ρ = ((T ρ).bind fun p ρ1 => if RgOk p.1 p.2 then .ok (.new (.lst (rgD p.1 p.2))) ρ1 else .stuck) := by
  unfold dLstRg
  rfl
theorem Gives.elim {m : Nat} {T : En → SR} {ds : List D} {x : X} (h : Gives m T ds x) : ∃ ρ', fin (T (env0 m (ds.map .val))) = .ok x ρ' := by
  unfold Gives at h
  cases e : fin (T (env0 m (ds.map .val))) with
  | ok y ρ' =>
    rw [e] at h
    cases h
    exact ⟨ρ', rfl⟩
  | err y ρ' => rw [e] at h; cases h
  | stuck => rw [e] at h; cases h
theorem GivesB.elim {m : Nat} {T : En → SR} {ds : List D} {x : X} {o o' : O} (h : GivesB m T o ds x o') : ∃ ρ', fin (T (env0 m (.bor o :: ds.map .val))) = .ok x ρ' ∧ ρ'[0]? = some (.bor o') := by
  unfold GivesB at h
  cases e : fin (T (env0 m (.bor o :: ds.map .val))) with
  | ok y ρ' =>
    rw [e] at h
    simp only [resB] at h
    split at h
    · rename_i u e2
      cases h
      exact ⟨ρ', rfl, e2⟩
    · cases h
  | err y ρ' => rw [e] at h; cases h
  | stuck => rw [e] at h; cases h
@[simp] theorem callB_ok {x : X} {ρ' ρ : En} {i : Nat} {o : O} (h : ρ'[0]? = some (.bor o)) : callB (.ok x ρ') i ρ = .ok x (reAt ρ i o) := by
  simp only [callB, h]
@[simp] theorem callV_ok {x : X} {ρ' ρ : En} : callV (.ok x ρ') ρ = .ok x ρ := rfl
@[simp] def stepL (U : Tg) (B : En → SR) (d : D) (ρ : En) : SR := match U d ρ with
  | none => .stuck
  | some ρ1 => B ρ1
theorem forL_inv {U : Tg} {B : En → SR} (W : Nat → En → Prop) {ds : List D} (h : ∀ i (hi : i < ds.length) ρ, W i ρ → ∃ ρ2, (stepL U B ds[i] ρ = .nx ρ2 ∨ stepL U B ds[i] ρ = .ct ρ2) ∧ W (i + 1) ρ2) {ρ : En} (h0 : W 0 ρ) : ∃ ρ', forL U B ds ρ = .nx ρ' ∧ W ds.length ρ' := by
  induction ds generalizing W ρ with
  | nil => exact ⟨ρ, rfl, h0⟩
  | cons d ds ih =>
    obtain ⟨ρ2, e2, w2⟩ := h 0 (by simp) ρ h0
    obtain ⟨ρ', e3, w3⟩ := ih (fun i => W (i + 1)) (fun i hi ρ hw => by
      obtain ⟨r2, q2, q3⟩ := h (i + 1) (by simpa using hi) ρ hw
      exact ⟨r2, by simpa using q2, q3⟩) w2
    refine ⟨ρ', ?_, w3⟩
    unfold forL
    have e2 : stepL U B d ρ = .nx ρ2 ∨ stepL U B d ρ = .ct ρ2 := e2
    unfold stepL at e2
    cases e1 : U d ρ with
    | none => rw [e1] at e2; rcases e2 with e2 | e2 <;> cases e2
    | some ρ1 =>
      rw [e1] at e2
      rcases e2 with e2 | e2 <;> (simp only [e2]; exact e3)
/-- a loop over range(n) -/
theorem forR_inv {U : Tg} {B : En → SR} {n : Nat} (W : Nat → En → Prop) (h : ∀ i, i < n → ∀ ρ, W i ρ → ∃ ρ2, (stepL U B (.int i) ρ = .nx ρ2 ∨ stepL U B (.int i) ρ = .ct ρ2) ∧ W (i + 1) ρ2) {ρ : En} (h0 : W 0 ρ) : ∃ ρ', forL U B ((List.range n).map fun i => D.int (i : Nat)) ρ = .nx ρ' ∧ W n ρ' := by
  obtain ⟨ρ', e, w⟩ := forL_inv (U := U) (B := B) (ds := (List.range n).map fun i => D.int (i : Nat)) W (fun i hi ρ hw => by
    simp only [List.length_map, List.length_range] at hi
    simp only [List.getElem_map, List.getElem_range]
    exact h i hi ρ hw) h0
  refine ⟨ρ', e, ?_⟩
  simpa using w
theorem atI_get {α : Type} {xs : List α} {i : Int} (h : 0 ≤ i) (h2 : i < xs.length) : ∃ x, atI xs i = some x ∧ x ∈ xs := by
  have hl : i.toNat < xs.length := by omega
  refine ⟨xs[i.toNat], ?_, List.getElem_mem hl⟩
  simp [atI, ixN, h, h2, hl]
end DL
set_option linter.all false
set_option maxRecDepth 100000
set_option maxHeartbeats 1000000
namespace DL
open PySem PySem.Spec PyProof.Rows L2 DD
theorem atI_ints {ns : List Int} {k : Nat} (h : k < ns.length) : atI (ns.map D.int) (k : Int) = some (.int ns[k]) := by
  have h2 : (k : Int) < ns.length := by omega
  simp [atI, ixN, h2, h]
/-- a meeting -/
abbrev Mt := Int × Int × Bool
def mtD (m : Mt) : D := .tup [.int m.1, .int m.2.1, .bl m.2.2]
/-- meetings in their order, from a tick on -/
def Meets : Int → List Mt → Prop
  | _, [] => True
  | a, m :: ms => a ≤ m.1 ∧ m.1 < m.2.1 ∧ Meets m.2.1 ms
def endOf : Int → List Mt → Int
  | a, [] => a
  | _, m :: ms => endOf m.2.1 ms
theorem Meets.snoc {m : Mt} : ∀ {a : Int} {ms : List Mt}, Meets a ms → endOf a ms ≤ m.1 → m.1 < m.2.1 → Meets a (ms ++ [m]) ∧ endOf a (ms ++ [m]) = m.2.1
  | _, [], _, h1, h2 => ⟨⟨h1, h2, trivial⟩, rfl⟩
  | _, x :: ms, h, h1, h2 => by
    obtain ⟨p, q⟩ := Meets.snoc (a := x.2.1) h.2.2 h1 h2
    exact ⟨⟨h.1, h.2.1, p⟩, q⟩
theorem mem_int {xs : List Int} {d : D} (h : d ∈ xs.map D.int) : ∃ i ∈ xs, d = .int i := by
  obtain ⟨i, hi, e⟩ := List.mem_map.mp h
  exact ⟨i, hi, e.symm⟩
/-- a rule's five -/
structure Ru where
  s : Int
  g : Int
  l : Int
  p : Str
  h : Option (Int × Int)
def hoD : Option (Int × Int) → D
  | none => .non
  | some x => .tup [.int x.1, .int x.2]
def ruD (r : Ru) : D := .tup [.int r.s, .int r.g, .int r.l, .str r.p, hoD r.h]
structure RuOk (r : Ru) : Prop where
  s : 1 ≤ r.s ∧ r.s ≤ 8
  g : 0 ≤ r.g ∧ r.g ≤ 16
  l : 0 ≤ r.l ∧ r.l ≤ 16
  p : r.p ∈ (["busy", "none", "apart", "one"] : List Str)
  h : ∀ x, r.h = some x → 0 ≤ x.1 ∧ x.1 < x.2 ∧ x.2 ≤ 48
theorem mem_str {xs : List Str} {d : D} (h : d ∈ xs.map D.str) : ∃ i ∈ xs, d = .str i := by
  obtain ⟨i, hi, e⟩ := List.mem_map.mp h
  exact ⟨i, hi, e.symm⟩
end DL
set_option linter.all false
set_option maxRecDepth 100000
set_option maxHeartbeats 1000000
namespace DL
open PySem PySem.Spec PyProof.Rows L2 DD
@[simp] theorem k_ii : kitB "int" "int" = some true := by decide +kernel
@[simp] theorem k_ib : kitB "int" "bool" = some false := by decide +kernel
@[simp] theorem k_bb : kitB "bool" "bool" = some true := by decide +kernel
@[simp] theorem k_ll : kitB "list" "list" = some true := by decide +kernel
@[simp] theorem k_tl : kitB "tuple" "list" = some false := by decide +kernel
@[simp] theorem k_tt : kitB "tuple" "tuple" = some true := by decide +kernel
@[simp] theorem k_lt : kitB "list" "tuple" = some false := by decide +kernel
@[simp] theorem kd_ty {Cs : List Addr} {a b : String} : kitD Cs (.type a) (.type b) = kitB a b := rfl
@[simp] theorem kd_own {Cs : List Addr} {a : Addr} : kitD Cs (.ref a) (.ref a) = some true := by simp [kitD]
@[simp] theorem is_integer_v {c : Cl} {i : Int} : Gives 1 (D_is_integer c) [.int i] (.val (.bl true)) := by
  simp [Gives, D_is_integer, anyK]
theorem is_number_v {c : Cl} {i : Int} : Gives 1 (D_is_number c) [.int i] (.val (.bl (decide (0 ≤ i)))) := by
  obtain ⟨_, p⟩ := (is_integer_v (c := c) (i := i)).elim
  simp at p
  simp [Gives, D_is_number, p]
theorem is_positive_v {c : Cl} {i : Int} : Gives 1 (D_is_positive c) [.int i] (.val (.bl (decide (1 ≤ i)))) := by
  obtain ⟨_, p⟩ := (is_integer_v (c := c) (i := i)).elim
  simp at p
  simp [Gives, D_is_positive, p]
theorem is_sequence_l {c : Cl} {ds : List D} : Gives 1 (D_is_sequence c) [.lst ds] (.val (.bl true)) := by
  simp [Gives, D_is_sequence, anyK]
theorem is_sequence_t {c : Cl} {ds : List D} : Gives 1 (D_is_sequence c) [.tup ds] (.val (.bl true)) := by
  simp [Gives, D_is_sequence, anyK]
theorem Meets.at : ∀ {a : Int} {ms : List Mt} {i : Nat}, Meets a ms → (hi : i < ms.length) → endOf a (ms.take i) ≤ ms[i].1 ∧ ms[i].1 < ms[i].2.1 ∧ endOf a (ms.take (i + 1)) = ms[i].2.1 ∧ a ≤ endOf a (ms.take i)
  | _, [], i, _, hi => by simp at hi
  | a, m :: ms, 0, h, _ => ⟨h.1, h.2.1, rfl, Int.le_refl _⟩
  | a, m :: ms, i + 1, h, hi => by
    obtain ⟨p, q, r, s⟩ := Meets.at (a := m.2.1) (ms := ms) (i := i) h.2.2 (by simpa using hi)
    exact ⟨p, q, r, by have := h.1; have := h.2.1; show a ≤ endOf m.2.1 (ms.take i); omega⟩
theorem endOf_le : ∀ {a : Int} {ms : List Mt} {i : Nat}, Meets a ms → endOf a (ms.take i) ≤ endOf a ms
  | _, [], i, _ => by simp
  | a, m :: ms, 0, h => by
    have : ∀ {a : Int} {ms : List Mt}, Meets a ms → a ≤ endOf a ms := by
      intro a ms
      induction ms generalizing a with
      | nil => intro _; exact Int.le_refl _
      | cons m ms ih => intro h; have := ih h.2.2; have := h.1; have := h.2.1; show a ≤ endOf m.2.1 ms; omega
    exact this h
  | a, m :: ms, i + 1, h => endOf_le (a := m.2.1) (ms := ms) (i := i) h.2.2
end DL
set_option linter.all false
namespace DL
open PySem
@[simp] theorem ne_step_gap : (Str.ofString "step" = Str.ofString "gap") = False := eq_false (by decide +kernel)
@[simp] theorem ne_step_least : (Str.ofString "step" = Str.ofString "least") = False := eq_false (by decide +kernel)
@[simp] theorem ne_step_private : (Str.ofString "step" = Str.ofString "private") = False := eq_false (by decide +kernel)
@[simp] theorem ne_step_hours : (Str.ofString "step" = Str.ofString "hours") = False := eq_false (by decide +kernel)
@[simp] theorem ne_step_length : (Str.ofString "step" = Str.ofString "length") = False := eq_false (by decide +kernel)
@[simp] theorem ne_step_meetings : (Str.ofString "step" = Str.ofString "meetings") = False := eq_false (by decide +kernel)
@[simp] theorem ne_step_shortest : (Str.ofString "step" = Str.ofString "shortest") = False := eq_false (by decide +kernel)
@[simp] theorem ne_step_most : (Str.ofString "step" = Str.ofString "most") = False := eq_false (by decide +kernel)
@[simp] theorem ne_step_known : (Str.ofString "step" = Str.ofString "known") = False := eq_false (by decide +kernel)
@[simp] theorem ne_step_busy : (Str.ofString "step" = Str.ofString "busy") = False := eq_false (by decide +kernel)
@[simp] theorem ne_step_none : (Str.ofString "step" = Str.ofString "none") = False := eq_false (by decide +kernel)
@[simp] theorem ne_step_apart : (Str.ofString "step" = Str.ofString "apart") = False := eq_false (by decide +kernel)
@[simp] theorem ne_step_one : (Str.ofString "step" = Str.ofString "one") = False := eq_false (by decide +kernel)
@[simp] theorem ne_gap_step : (Str.ofString "gap" = Str.ofString "step") = False := eq_false (by decide +kernel)
@[simp] theorem ne_gap_least : (Str.ofString "gap" = Str.ofString "least") = False := eq_false (by decide +kernel)
@[simp] theorem ne_gap_private : (Str.ofString "gap" = Str.ofString "private") = False := eq_false (by decide +kernel)
@[simp] theorem ne_gap_hours : (Str.ofString "gap" = Str.ofString "hours") = False := eq_false (by decide +kernel)
@[simp] theorem ne_gap_length : (Str.ofString "gap" = Str.ofString "length") = False := eq_false (by decide +kernel)
@[simp] theorem ne_gap_meetings : (Str.ofString "gap" = Str.ofString "meetings") = False := eq_false (by decide +kernel)
@[simp] theorem ne_gap_shortest : (Str.ofString "gap" = Str.ofString "shortest") = False := eq_false (by decide +kernel)
@[simp] theorem ne_gap_most : (Str.ofString "gap" = Str.ofString "most") = False := eq_false (by decide +kernel)
@[simp] theorem ne_gap_known : (Str.ofString "gap" = Str.ofString "known") = False := eq_false (by decide +kernel)
@[simp] theorem ne_gap_busy : (Str.ofString "gap" = Str.ofString "busy") = False := eq_false (by decide +kernel)
@[simp] theorem ne_gap_none : (Str.ofString "gap" = Str.ofString "none") = False := eq_false (by decide +kernel)
@[simp] theorem ne_gap_apart : (Str.ofString "gap" = Str.ofString "apart") = False := eq_false (by decide +kernel)
@[simp] theorem ne_gap_one : (Str.ofString "gap" = Str.ofString "one") = False := eq_false (by decide +kernel)
@[simp] theorem ne_least_step : (Str.ofString "least" = Str.ofString "step") = False := eq_false (by decide +kernel)
@[simp] theorem ne_least_gap : (Str.ofString "least" = Str.ofString "gap") = False := eq_false (by decide +kernel)
@[simp] theorem ne_least_private : (Str.ofString "least" = Str.ofString "private") = False := eq_false (by decide +kernel)
@[simp] theorem ne_least_hours : (Str.ofString "least" = Str.ofString "hours") = False := eq_false (by decide +kernel)
@[simp] theorem ne_least_length : (Str.ofString "least" = Str.ofString "length") = False := eq_false (by decide +kernel)
@[simp] theorem ne_least_meetings : (Str.ofString "least" = Str.ofString "meetings") = False := eq_false (by decide +kernel)
@[simp] theorem ne_least_shortest : (Str.ofString "least" = Str.ofString "shortest") = False := eq_false (by decide +kernel)
@[simp] theorem ne_least_most : (Str.ofString "least" = Str.ofString "most") = False := eq_false (by decide +kernel)
@[simp] theorem ne_least_known : (Str.ofString "least" = Str.ofString "known") = False := eq_false (by decide +kernel)
@[simp] theorem ne_least_busy : (Str.ofString "least" = Str.ofString "busy") = False := eq_false (by decide +kernel)
@[simp] theorem ne_least_none : (Str.ofString "least" = Str.ofString "none") = False := eq_false (by decide +kernel)
@[simp] theorem ne_least_apart : (Str.ofString "least" = Str.ofString "apart") = False := eq_false (by decide +kernel)
@[simp] theorem ne_least_one : (Str.ofString "least" = Str.ofString "one") = False := eq_false (by decide +kernel)
@[simp] theorem ne_private_step : (Str.ofString "private" = Str.ofString "step") = False := eq_false (by decide +kernel)
@[simp] theorem ne_private_gap : (Str.ofString "private" = Str.ofString "gap") = False := eq_false (by decide +kernel)
@[simp] theorem ne_private_least : (Str.ofString "private" = Str.ofString "least") = False := eq_false (by decide +kernel)
@[simp] theorem ne_private_hours : (Str.ofString "private" = Str.ofString "hours") = False := eq_false (by decide +kernel)
@[simp] theorem ne_private_length : (Str.ofString "private" = Str.ofString "length") = False := eq_false (by decide +kernel)
@[simp] theorem ne_private_meetings : (Str.ofString "private" = Str.ofString "meetings") = False := eq_false (by decide +kernel)
@[simp] theorem ne_private_shortest : (Str.ofString "private" = Str.ofString "shortest") = False := eq_false (by decide +kernel)
@[simp] theorem ne_private_most : (Str.ofString "private" = Str.ofString "most") = False := eq_false (by decide +kernel)
@[simp] theorem ne_private_known : (Str.ofString "private" = Str.ofString "known") = False := eq_false (by decide +kernel)
@[simp] theorem ne_private_busy : (Str.ofString "private" = Str.ofString "busy") = False := eq_false (by decide +kernel)
@[simp] theorem ne_private_none : (Str.ofString "private" = Str.ofString "none") = False := eq_false (by decide +kernel)
@[simp] theorem ne_private_apart : (Str.ofString "private" = Str.ofString "apart") = False := eq_false (by decide +kernel)
@[simp] theorem ne_private_one : (Str.ofString "private" = Str.ofString "one") = False := eq_false (by decide +kernel)
@[simp] theorem ne_hours_step : (Str.ofString "hours" = Str.ofString "step") = False := eq_false (by decide +kernel)
@[simp] theorem ne_hours_gap : (Str.ofString "hours" = Str.ofString "gap") = False := eq_false (by decide +kernel)
@[simp] theorem ne_hours_least : (Str.ofString "hours" = Str.ofString "least") = False := eq_false (by decide +kernel)
@[simp] theorem ne_hours_private : (Str.ofString "hours" = Str.ofString "private") = False := eq_false (by decide +kernel)
@[simp] theorem ne_hours_length : (Str.ofString "hours" = Str.ofString "length") = False := eq_false (by decide +kernel)
@[simp] theorem ne_hours_meetings : (Str.ofString "hours" = Str.ofString "meetings") = False := eq_false (by decide +kernel)
@[simp] theorem ne_hours_shortest : (Str.ofString "hours" = Str.ofString "shortest") = False := eq_false (by decide +kernel)
@[simp] theorem ne_hours_most : (Str.ofString "hours" = Str.ofString "most") = False := eq_false (by decide +kernel)
@[simp] theorem ne_hours_known : (Str.ofString "hours" = Str.ofString "known") = False := eq_false (by decide +kernel)
@[simp] theorem ne_hours_busy : (Str.ofString "hours" = Str.ofString "busy") = False := eq_false (by decide +kernel)
@[simp] theorem ne_hours_none : (Str.ofString "hours" = Str.ofString "none") = False := eq_false (by decide +kernel)
@[simp] theorem ne_hours_apart : (Str.ofString "hours" = Str.ofString "apart") = False := eq_false (by decide +kernel)
@[simp] theorem ne_hours_one : (Str.ofString "hours" = Str.ofString "one") = False := eq_false (by decide +kernel)
@[simp] theorem ne_length_step : (Str.ofString "length" = Str.ofString "step") = False := eq_false (by decide +kernel)
@[simp] theorem ne_length_gap : (Str.ofString "length" = Str.ofString "gap") = False := eq_false (by decide +kernel)
@[simp] theorem ne_length_least : (Str.ofString "length" = Str.ofString "least") = False := eq_false (by decide +kernel)
@[simp] theorem ne_length_private : (Str.ofString "length" = Str.ofString "private") = False := eq_false (by decide +kernel)
@[simp] theorem ne_length_hours : (Str.ofString "length" = Str.ofString "hours") = False := eq_false (by decide +kernel)
@[simp] theorem ne_length_meetings : (Str.ofString "length" = Str.ofString "meetings") = False := eq_false (by decide +kernel)
@[simp] theorem ne_length_shortest : (Str.ofString "length" = Str.ofString "shortest") = False := eq_false (by decide +kernel)
@[simp] theorem ne_length_most : (Str.ofString "length" = Str.ofString "most") = False := eq_false (by decide +kernel)
@[simp] theorem ne_length_known : (Str.ofString "length" = Str.ofString "known") = False := eq_false (by decide +kernel)
@[simp] theorem ne_length_busy : (Str.ofString "length" = Str.ofString "busy") = False := eq_false (by decide +kernel)
@[simp] theorem ne_length_none : (Str.ofString "length" = Str.ofString "none") = False := eq_false (by decide +kernel)
@[simp] theorem ne_length_apart : (Str.ofString "length" = Str.ofString "apart") = False := eq_false (by decide +kernel)
@[simp] theorem ne_length_one : (Str.ofString "length" = Str.ofString "one") = False := eq_false (by decide +kernel)
@[simp] theorem ne_meetings_step : (Str.ofString "meetings" = Str.ofString "step") = False := eq_false (by decide +kernel)
@[simp] theorem ne_meetings_gap : (Str.ofString "meetings" = Str.ofString "gap") = False := eq_false (by decide +kernel)
@[simp] theorem ne_meetings_least : (Str.ofString "meetings" = Str.ofString "least") = False := eq_false (by decide +kernel)
@[simp] theorem ne_meetings_private : (Str.ofString "meetings" = Str.ofString "private") = False := eq_false (by decide +kernel)
@[simp] theorem ne_meetings_hours : (Str.ofString "meetings" = Str.ofString "hours") = False := eq_false (by decide +kernel)
@[simp] theorem ne_meetings_length : (Str.ofString "meetings" = Str.ofString "length") = False := eq_false (by decide +kernel)
@[simp] theorem ne_meetings_shortest : (Str.ofString "meetings" = Str.ofString "shortest") = False := eq_false (by decide +kernel)
@[simp] theorem ne_meetings_most : (Str.ofString "meetings" = Str.ofString "most") = False := eq_false (by decide +kernel)
@[simp] theorem ne_meetings_known : (Str.ofString "meetings" = Str.ofString "known") = False := eq_false (by decide +kernel)
@[simp] theorem ne_meetings_busy : (Str.ofString "meetings" = Str.ofString "busy") = False := eq_false (by decide +kernel)
@[simp] theorem ne_meetings_none : (Str.ofString "meetings" = Str.ofString "none") = False := eq_false (by decide +kernel)
@[simp] theorem ne_meetings_apart : (Str.ofString "meetings" = Str.ofString "apart") = False := eq_false (by decide +kernel)
@[simp] theorem ne_meetings_one : (Str.ofString "meetings" = Str.ofString "one") = False := eq_false (by decide +kernel)
@[simp] theorem ne_shortest_step : (Str.ofString "shortest" = Str.ofString "step") = False := eq_false (by decide +kernel)
@[simp] theorem ne_shortest_gap : (Str.ofString "shortest" = Str.ofString "gap") = False := eq_false (by decide +kernel)
@[simp] theorem ne_shortest_least : (Str.ofString "shortest" = Str.ofString "least") = False := eq_false (by decide +kernel)
@[simp] theorem ne_shortest_private : (Str.ofString "shortest" = Str.ofString "private") = False := eq_false (by decide +kernel)
@[simp] theorem ne_shortest_hours : (Str.ofString "shortest" = Str.ofString "hours") = False := eq_false (by decide +kernel)
@[simp] theorem ne_shortest_length : (Str.ofString "shortest" = Str.ofString "length") = False := eq_false (by decide +kernel)
@[simp] theorem ne_shortest_meetings : (Str.ofString "shortest" = Str.ofString "meetings") = False := eq_false (by decide +kernel)
@[simp] theorem ne_shortest_most : (Str.ofString "shortest" = Str.ofString "most") = False := eq_false (by decide +kernel)
@[simp] theorem ne_shortest_known : (Str.ofString "shortest" = Str.ofString "known") = False := eq_false (by decide +kernel)
@[simp] theorem ne_shortest_busy : (Str.ofString "shortest" = Str.ofString "busy") = False := eq_false (by decide +kernel)
@[simp] theorem ne_shortest_none : (Str.ofString "shortest" = Str.ofString "none") = False := eq_false (by decide +kernel)
@[simp] theorem ne_shortest_apart : (Str.ofString "shortest" = Str.ofString "apart") = False := eq_false (by decide +kernel)
@[simp] theorem ne_shortest_one : (Str.ofString "shortest" = Str.ofString "one") = False := eq_false (by decide +kernel)
@[simp] theorem ne_most_step : (Str.ofString "most" = Str.ofString "step") = False := eq_false (by decide +kernel)
@[simp] theorem ne_most_gap : (Str.ofString "most" = Str.ofString "gap") = False := eq_false (by decide +kernel)
@[simp] theorem ne_most_least : (Str.ofString "most" = Str.ofString "least") = False := eq_false (by decide +kernel)
@[simp] theorem ne_most_private : (Str.ofString "most" = Str.ofString "private") = False := eq_false (by decide +kernel)
@[simp] theorem ne_most_hours : (Str.ofString "most" = Str.ofString "hours") = False := eq_false (by decide +kernel)
@[simp] theorem ne_most_length : (Str.ofString "most" = Str.ofString "length") = False := eq_false (by decide +kernel)
@[simp] theorem ne_most_meetings : (Str.ofString "most" = Str.ofString "meetings") = False := eq_false (by decide +kernel)
@[simp] theorem ne_most_shortest : (Str.ofString "most" = Str.ofString "shortest") = False := eq_false (by decide +kernel)
@[simp] theorem ne_most_known : (Str.ofString "most" = Str.ofString "known") = False := eq_false (by decide +kernel)
@[simp] theorem ne_most_busy : (Str.ofString "most" = Str.ofString "busy") = False := eq_false (by decide +kernel)
@[simp] theorem ne_most_none : (Str.ofString "most" = Str.ofString "none") = False := eq_false (by decide +kernel)
@[simp] theorem ne_most_apart : (Str.ofString "most" = Str.ofString "apart") = False := eq_false (by decide +kernel)
@[simp] theorem ne_most_one : (Str.ofString "most" = Str.ofString "one") = False := eq_false (by decide +kernel)
@[simp] theorem ne_known_step : (Str.ofString "known" = Str.ofString "step") = False := eq_false (by decide +kernel)
@[simp] theorem ne_known_gap : (Str.ofString "known" = Str.ofString "gap") = False := eq_false (by decide +kernel)
@[simp] theorem ne_known_least : (Str.ofString "known" = Str.ofString "least") = False := eq_false (by decide +kernel)
@[simp] theorem ne_known_private : (Str.ofString "known" = Str.ofString "private") = False := eq_false (by decide +kernel)
@[simp] theorem ne_known_hours : (Str.ofString "known" = Str.ofString "hours") = False := eq_false (by decide +kernel)
@[simp] theorem ne_known_length : (Str.ofString "known" = Str.ofString "length") = False := eq_false (by decide +kernel)
@[simp] theorem ne_known_meetings : (Str.ofString "known" = Str.ofString "meetings") = False := eq_false (by decide +kernel)
@[simp] theorem ne_known_shortest : (Str.ofString "known" = Str.ofString "shortest") = False := eq_false (by decide +kernel)
@[simp] theorem ne_known_most : (Str.ofString "known" = Str.ofString "most") = False := eq_false (by decide +kernel)
@[simp] theorem ne_known_busy : (Str.ofString "known" = Str.ofString "busy") = False := eq_false (by decide +kernel)
@[simp] theorem ne_known_none : (Str.ofString "known" = Str.ofString "none") = False := eq_false (by decide +kernel)
@[simp] theorem ne_known_apart : (Str.ofString "known" = Str.ofString "apart") = False := eq_false (by decide +kernel)
@[simp] theorem ne_known_one : (Str.ofString "known" = Str.ofString "one") = False := eq_false (by decide +kernel)
@[simp] theorem ne_busy_step : (Str.ofString "busy" = Str.ofString "step") = False := eq_false (by decide +kernel)
@[simp] theorem ne_busy_gap : (Str.ofString "busy" = Str.ofString "gap") = False := eq_false (by decide +kernel)
@[simp] theorem ne_busy_least : (Str.ofString "busy" = Str.ofString "least") = False := eq_false (by decide +kernel)
@[simp] theorem ne_busy_private : (Str.ofString "busy" = Str.ofString "private") = False := eq_false (by decide +kernel)
@[simp] theorem ne_busy_hours : (Str.ofString "busy" = Str.ofString "hours") = False := eq_false (by decide +kernel)
@[simp] theorem ne_busy_length : (Str.ofString "busy" = Str.ofString "length") = False := eq_false (by decide +kernel)
@[simp] theorem ne_busy_meetings : (Str.ofString "busy" = Str.ofString "meetings") = False := eq_false (by decide +kernel)
@[simp] theorem ne_busy_shortest : (Str.ofString "busy" = Str.ofString "shortest") = False := eq_false (by decide +kernel)
@[simp] theorem ne_busy_most : (Str.ofString "busy" = Str.ofString "most") = False := eq_false (by decide +kernel)
@[simp] theorem ne_busy_known : (Str.ofString "busy" = Str.ofString "known") = False := eq_false (by decide +kernel)
@[simp] theorem ne_busy_none : (Str.ofString "busy" = Str.ofString "none") = False := eq_false (by decide +kernel)
@[simp] theorem ne_busy_apart : (Str.ofString "busy" = Str.ofString "apart") = False := eq_false (by decide +kernel)
@[simp] theorem ne_busy_one : (Str.ofString "busy" = Str.ofString "one") = False := eq_false (by decide +kernel)
@[simp] theorem ne_none_step : (Str.ofString "none" = Str.ofString "step") = False := eq_false (by decide +kernel)
@[simp] theorem ne_none_gap : (Str.ofString "none" = Str.ofString "gap") = False := eq_false (by decide +kernel)
@[simp] theorem ne_none_least : (Str.ofString "none" = Str.ofString "least") = False := eq_false (by decide +kernel)
@[simp] theorem ne_none_private : (Str.ofString "none" = Str.ofString "private") = False := eq_false (by decide +kernel)
@[simp] theorem ne_none_hours : (Str.ofString "none" = Str.ofString "hours") = False := eq_false (by decide +kernel)
@[simp] theorem ne_none_length : (Str.ofString "none" = Str.ofString "length") = False := eq_false (by decide +kernel)
@[simp] theorem ne_none_meetings : (Str.ofString "none" = Str.ofString "meetings") = False := eq_false (by decide +kernel)
@[simp] theorem ne_none_shortest : (Str.ofString "none" = Str.ofString "shortest") = False := eq_false (by decide +kernel)
@[simp] theorem ne_none_most : (Str.ofString "none" = Str.ofString "most") = False := eq_false (by decide +kernel)
@[simp] theorem ne_none_known : (Str.ofString "none" = Str.ofString "known") = False := eq_false (by decide +kernel)
@[simp] theorem ne_none_busy : (Str.ofString "none" = Str.ofString "busy") = False := eq_false (by decide +kernel)
@[simp] theorem ne_none_apart : (Str.ofString "none" = Str.ofString "apart") = False := eq_false (by decide +kernel)
@[simp] theorem ne_none_one : (Str.ofString "none" = Str.ofString "one") = False := eq_false (by decide +kernel)
@[simp] theorem ne_apart_step : (Str.ofString "apart" = Str.ofString "step") = False := eq_false (by decide +kernel)
@[simp] theorem ne_apart_gap : (Str.ofString "apart" = Str.ofString "gap") = False := eq_false (by decide +kernel)
@[simp] theorem ne_apart_least : (Str.ofString "apart" = Str.ofString "least") = False := eq_false (by decide +kernel)
@[simp] theorem ne_apart_private : (Str.ofString "apart" = Str.ofString "private") = False := eq_false (by decide +kernel)
@[simp] theorem ne_apart_hours : (Str.ofString "apart" = Str.ofString "hours") = False := eq_false (by decide +kernel)
@[simp] theorem ne_apart_length : (Str.ofString "apart" = Str.ofString "length") = False := eq_false (by decide +kernel)
@[simp] theorem ne_apart_meetings : (Str.ofString "apart" = Str.ofString "meetings") = False := eq_false (by decide +kernel)
@[simp] theorem ne_apart_shortest : (Str.ofString "apart" = Str.ofString "shortest") = False := eq_false (by decide +kernel)
@[simp] theorem ne_apart_most : (Str.ofString "apart" = Str.ofString "most") = False := eq_false (by decide +kernel)
@[simp] theorem ne_apart_known : (Str.ofString "apart" = Str.ofString "known") = False := eq_false (by decide +kernel)
@[simp] theorem ne_apart_busy : (Str.ofString "apart" = Str.ofString "busy") = False := eq_false (by decide +kernel)
@[simp] theorem ne_apart_none : (Str.ofString "apart" = Str.ofString "none") = False := eq_false (by decide +kernel)
@[simp] theorem ne_apart_one : (Str.ofString "apart" = Str.ofString "one") = False := eq_false (by decide +kernel)
@[simp] theorem ne_one_step : (Str.ofString "one" = Str.ofString "step") = False := eq_false (by decide +kernel)
@[simp] theorem ne_one_gap : (Str.ofString "one" = Str.ofString "gap") = False := eq_false (by decide +kernel)
@[simp] theorem ne_one_least : (Str.ofString "one" = Str.ofString "least") = False := eq_false (by decide +kernel)
@[simp] theorem ne_one_private : (Str.ofString "one" = Str.ofString "private") = False := eq_false (by decide +kernel)
@[simp] theorem ne_one_hours : (Str.ofString "one" = Str.ofString "hours") = False := eq_false (by decide +kernel)
@[simp] theorem ne_one_length : (Str.ofString "one" = Str.ofString "length") = False := eq_false (by decide +kernel)
@[simp] theorem ne_one_meetings : (Str.ofString "one" = Str.ofString "meetings") = False := eq_false (by decide +kernel)
@[simp] theorem ne_one_shortest : (Str.ofString "one" = Str.ofString "shortest") = False := eq_false (by decide +kernel)
@[simp] theorem ne_one_most : (Str.ofString "one" = Str.ofString "most") = False := eq_false (by decide +kernel)
@[simp] theorem ne_one_known : (Str.ofString "one" = Str.ofString "known") = False := eq_false (by decide +kernel)
@[simp] theorem ne_one_busy : (Str.ofString "one" = Str.ofString "busy") = False := eq_false (by decide +kernel)
@[simp] theorem ne_one_none : (Str.ofString "one" = Str.ofString "none") = False := eq_false (by decide +kernel)
@[simp] theorem ne_one_apart : (Str.ofString "one" = Str.ofString "apart") = False := eq_false (by decide +kernel)
@[simp] theorem ne_but_step : (Str.ofString "but" = Str.ofString "step") = False := eq_false (by decide +kernel)
@[simp] theorem ne_but_gap : (Str.ofString "but" = Str.ofString "gap") = False := eq_false (by decide +kernel)
@[simp] theorem ne_but_least : (Str.ofString "but" = Str.ofString "least") = False := eq_false (by decide +kernel)
@[simp] theorem ne_but_private : (Str.ofString "but" = Str.ofString "private") = False := eq_false (by decide +kernel)
@[simp] theorem ne_but_hours : (Str.ofString "but" = Str.ofString "hours") = False := eq_false (by decide +kernel)
@[simp] theorem ne_but_length : (Str.ofString "but" = Str.ofString "length") = False := eq_false (by decide +kernel)
@[simp] theorem ne_but_meetings : (Str.ofString "but" = Str.ofString "meetings") = False := eq_false (by decide +kernel)
@[simp] theorem ne_but_shortest : (Str.ofString "but" = Str.ofString "shortest") = False := eq_false (by decide +kernel)
@[simp] theorem ne_but_most : (Str.ofString "but" = Str.ofString "most") = False := eq_false (by decide +kernel)
@[simp] theorem ne_but_known : (Str.ofString "but" = Str.ofString "known") = False := eq_false (by decide +kernel)
@[simp] theorem ne_without_step : (Str.ofString "without" = Str.ofString "step") = False := eq_false (by decide +kernel)
@[simp] theorem ne_without_gap : (Str.ofString "without" = Str.ofString "gap") = False := eq_false (by decide +kernel)
@[simp] theorem ne_without_least : (Str.ofString "without" = Str.ofString "least") = False := eq_false (by decide +kernel)
@[simp] theorem ne_without_private : (Str.ofString "without" = Str.ofString "private") = False := eq_false (by decide +kernel)
@[simp] theorem ne_without_hours : (Str.ofString "without" = Str.ofString "hours") = False := eq_false (by decide +kernel)
@[simp] theorem ne_without_length : (Str.ofString "without" = Str.ofString "length") = False := eq_false (by decide +kernel)
@[simp] theorem ne_without_meetings : (Str.ofString "without" = Str.ofString "meetings") = False := eq_false (by decide +kernel)
@[simp] theorem ne_without_shortest : (Str.ofString "without" = Str.ofString "shortest") = False := eq_false (by decide +kernel)
@[simp] theorem ne_without_most : (Str.ofString "without" = Str.ofString "most") = False := eq_false (by decide +kernel)
@[simp] theorem ne_without_known : (Str.ofString "without" = Str.ofString "known") = False := eq_false (by decide +kernel)
@[simp] theorem ne_having_step : (Str.ofString "having" = Str.ofString "step") = False := eq_false (by decide +kernel)
@[simp] theorem ne_having_gap : (Str.ofString "having" = Str.ofString "gap") = False := eq_false (by decide +kernel)
@[simp] theorem ne_having_least : (Str.ofString "having" = Str.ofString "least") = False := eq_false (by decide +kernel)
@[simp] theorem ne_having_private : (Str.ofString "having" = Str.ofString "private") = False := eq_false (by decide +kernel)
@[simp] theorem ne_having_hours : (Str.ofString "having" = Str.ofString "hours") = False := eq_false (by decide +kernel)
@[simp] theorem ne_having_length : (Str.ofString "having" = Str.ofString "length") = False := eq_false (by decide +kernel)
@[simp] theorem ne_having_meetings : (Str.ofString "having" = Str.ofString "meetings") = False := eq_false (by decide +kernel)
@[simp] theorem ne_having_shortest : (Str.ofString "having" = Str.ofString "shortest") = False := eq_false (by decide +kernel)
@[simp] theorem ne_having_most : (Str.ofString "having" = Str.ofString "most") = False := eq_false (by decide +kernel)
@[simp] theorem ne_having_known : (Str.ofString "having" = Str.ofString "known") = False := eq_false (by decide +kernel)
@[simp] theorem ne_knowing_step : (Str.ofString "knowing" = Str.ofString "step") = False := eq_false (by decide +kernel)
@[simp] theorem ne_knowing_gap : (Str.ofString "knowing" = Str.ofString "gap") = False := eq_false (by decide +kernel)
@[simp] theorem ne_knowing_least : (Str.ofString "knowing" = Str.ofString "least") = False := eq_false (by decide +kernel)
@[simp] theorem ne_knowing_private : (Str.ofString "knowing" = Str.ofString "private") = False := eq_false (by decide +kernel)
@[simp] theorem ne_knowing_hours : (Str.ofString "knowing" = Str.ofString "hours") = False := eq_false (by decide +kernel)
@[simp] theorem ne_knowing_length : (Str.ofString "knowing" = Str.ofString "length") = False := eq_false (by decide +kernel)
@[simp] theorem ne_knowing_meetings : (Str.ofString "knowing" = Str.ofString "meetings") = False := eq_false (by decide +kernel)
@[simp] theorem ne_knowing_shortest : (Str.ofString "knowing" = Str.ofString "shortest") = False := eq_false (by decide +kernel)
@[simp] theorem ne_knowing_most : (Str.ofString "knowing" = Str.ofString "most") = False := eq_false (by decide +kernel)
@[simp] theorem ne_knowing_known : (Str.ofString "knowing" = Str.ofString "known") = False := eq_false (by decide +kernel)
@[simp] theorem ne_lets_step : (Str.ofString "lets" = Str.ofString "step") = False := eq_false (by decide +kernel)
@[simp] theorem ne_lets_gap : (Str.ofString "lets" = Str.ofString "gap") = False := eq_false (by decide +kernel)
@[simp] theorem ne_lets_least : (Str.ofString "lets" = Str.ofString "least") = False := eq_false (by decide +kernel)
@[simp] theorem ne_lets_private : (Str.ofString "lets" = Str.ofString "private") = False := eq_false (by decide +kernel)
@[simp] theorem ne_lets_hours : (Str.ofString "lets" = Str.ofString "hours") = False := eq_false (by decide +kernel)
@[simp] theorem ne_lets_length : (Str.ofString "lets" = Str.ofString "length") = False := eq_false (by decide +kernel)
@[simp] theorem ne_lets_meetings : (Str.ofString "lets" = Str.ofString "meetings") = False := eq_false (by decide +kernel)
@[simp] theorem ne_lets_shortest : (Str.ofString "lets" = Str.ofString "shortest") = False := eq_false (by decide +kernel)
@[simp] theorem ne_lets_most : (Str.ofString "lets" = Str.ofString "most") = False := eq_false (by decide +kernel)
@[simp] theorem ne_lets_known : (Str.ofString "lets" = Str.ofString "known") = False := eq_false (by decide +kernel)
end DL
set_option linter.all false
set_option maxRecDepth 100000
set_option maxHeartbeats 1000000
namespace DL
open PySem PySem.Spec PyProof.Rows L2 DD
def HoOk (h : Option (Int × Int)) : Prop := ∀ x, h = some x → 0 ≤ x.1 ∧ x.1 < x.2
theorem pyEq_s {a b : Str} : pyEq (.str a) (.str b) = decide (a = b) := by
  show PyData.eqv (.str a) (.str b) = _
  simp [PyData.eqv]
  try rfl
theorem pyEq_i {a b : Int} : pyEq (.int a) (.int b) = decide (a = b) := by
  show PyData.eqv (.int a) (.int b) = _
  simp [PyData.eqv]
  try rfl
theorem inD_s {s : Str} {xs : List Str} : inD (.str s) (xs.map D.str) = decide (s ∈ xs) := by
  induction xs with
  | nil => rfl
  | cons x xs ih =>
    rw [List.map_cons]
    show (pyEq (.str x) (.str s) || inD (.str s) (xs.map D.str)) = _
    rw [ih, pyEq_s]
    by_cases h : x = s
    · simp [h]
    · have h' : ¬ s = x := fun e => h e.symm
      simp [h, h']
theorem inD_i {i : Int} {xs : List Int} : inD (.int i) (xs.map D.int) = decide (i ∈ xs) := by
  induction xs with
  | nil => rfl
  | cons x xs ih =>
    rw [List.map_cons]
    show (pyEq (.int x) (.int i) || inD (.int i) (xs.map D.int)) = _
    rw [ih, pyEq_i]
    by_cases h : x = i
    · simp [h]
    · have h' : ¬ i = x := fun e => h e.symm
      simp [h, h']
theorem flat_s {xs : List Str} : (xs.map D.str).all D.flat = true := by simp [D.flat]
theorem flat_i {xs : List Int} : (xs.map D.int).all D.flat = true := by simp [D.flat]
theorem in_strs {s : Str} {xs : List Str} : opInB (.str s) (.tup (xs.map D.str)) = some (decide (s ∈ xs)) := by
  show (if _ then some (inD (.str s) (xs.map D.str)) else _) = _
  rw [if_pos ⟨rfl, flat_s⟩, inD_s]
theorem in_ints {i : Int} {xs : List Int} : opInB (.int i) (.lst (xs.map D.int)) = some (decide (i ∈ xs)) := by
  show (if _ then some (inD (.int i) (xs.map D.int)) else _) = _
  rw [if_pos ⟨rfl, flat_i⟩, inD_i]
@[simp] theorem in_s4 {s a b c d : Str} : opInB (.str s) (.tup [.str a, .str b, .str c, .str d]) = some (decide (s ∈ [a, b, c, d])) := in_strs (xs := [a, b, c, d])
@[simp] theorem in_s2 {s a b : Str} : opInB (.str s) (.tup [.str a, .str b]) = some (decide (s ∈ [a, b])) := in_strs (xs := [a, b])
/-- what a rule must be -/
structure RuIn (r : Ru) : Prop where
  s : 1 ≤ r.s
  g : 0 ≤ r.g
  l : 0 ≤ r.l
  p : r.p ∈ (["busy", "none", "apart", "one"] : List Str)
  h : HoOk r.h
theorem RuOk.ri {r : Ru} (h : RuOk r) : RuIn r := ⟨h.s.1, h.g.1, h.l.1, h.p, fun x e => ⟨(h.h x e).1, (h.h x e).2.1⟩⟩
theorem are_hours_v {c : Cl} {h : Option (Int × Int)} (ok : HoOk h) : Gives 3 (D__are_hours c) [hoD h] (.val (.bl true)) := by
  cases h with
  | none => simp [Gives, D__are_hours, hoD]
  | some x =>
    obtain ⟨h1, h2⟩ := ok x rfl
    obtain ⟨_, p⟩ := (is_number_v (c := c) (i := x.1)).elim
    obtain ⟨_, q⟩ := (is_number_v (c := c) (i := x.2)).elim
    have h3 : 0 ≤ x.2 := by omega
    simp at p q
    simp [Gives, D__are_hours, hoD, p, q, h1, h2, h3, anyK]
theorem wrong_v {c : Cl} {r : Ru} (ok : RuIn r) : Gives 5 (D__wrong_argument c) [.int r.s, .int r.g, .int r.l, .str r.p, hoD r.h] (.val .non) := by
  obtain ⟨_, p1⟩ := (is_positive_v (c := c) (i := r.s)).elim
  obtain ⟨_, p2⟩ := (is_number_v (c := c) (i := r.g)).elim
  obtain ⟨_, p3⟩ := (is_number_v (c := c) (i := r.l)).elim
  obtain ⟨_, p4⟩ := (are_hours_v (c := c) ok.h).elim
  have h1 := ok.s
  have h2 := ok.g
  have h3 := ok.l
  have h4 := ok.p
  simp at p1 p2 p3 p4 h4
  rcases h4 with e | e | e | e <;> simp [Gives, D__wrong_argument, p1, p2, p3, p4, h1, h2, h3, e]
def ruO (c : Cl) (r : Ru) : O := .ins c.Rule ["step", "gap", "least", "private", "hours"] [.int r.s, .int r.g, .int r.l, .str r.p, hoD r.h]
/-- a rule, a day, as data -/
def rvD (c : Cl) (r : Ru) : D := .ins c.Rule ["step", "gap", "least", "private", "hours"] [.int r.s, .int r.g, .int r.l, .str r.p, hoD r.h]
theorem rule_init {c : Cl} {r : Ru} (ok : RuIn r) : GivesB 7 (fun ρ => D_Rule___init__ c (fillD 6 [] ρ)) (.ins c.Rule [] []) [.int r.s, .int r.g, .int r.l, .str r.p, hoD r.h] (.val .non) (ruO c r) := by
  obtain ⟨_, p⟩ := (wrong_v (c := c) ok).elim
  simp at p
  simp [GivesB, D_Rule___init__, fillD, p, ruO]
end DL
set_option linter.all false
set_option maxRecDepth 100000
set_option maxHeartbeats 1000000
namespace DL
open PySem PySem.Spec PyProof.Rows L2 DD
@[simp] theorem atI_zero {α : Type} {a : α} {L : List α} : atI (a :: L) 0 = some a := by
  have : (0 : Int) < (L.length : Int) + 1 := by omega
  simp [atI, ixN, this]
@[simp] theorem atI_one {α : Type} {a b : α} {L : List α} : atI (a :: b :: L) 1 = some b := by
  have : (1 : Int) < (L.length : Int) + 1 + 1 := by omega
  simp [atI, ixN, this]
@[simp] theorem atI_two {α : Type} {a b d : α} {L : List α} : atI (a :: b :: d :: L) 2 = some d := by
  have : (2 : Int) < (L.length : Int) + 1 + 1 + 1 := by omega
  simp [atI, ixN, this]
@[simp] theorem atI_three {α : Type} {a b d e : α} {L : List α} : atI (a :: b :: d :: e :: L) 3 = some e := by
  have : (3 : Int) < (L.length : Int) + 1 + 1 + 1 + 1 := by omega
  simp [atI, ixN, this]
@[simp] theorem atI_four {α : Type} {a b d e f : α} {L : List α} : atI (a :: b :: d :: e :: f :: L) 4 = some f := by
  have : (4 : Int) < (L.length : Int) + 1 + 1 + 1 + 1 + 1 := by omega
  simp [atI, ixN, this]
@[simp] theorem ixN_last {n : Nat} : ixN (n + 1) (-1) = some n := by
  have h1 : ¬ (0 : Int) ≤ -1 := by omega
  have h3 : (1 : Int) ≤ (n : Int) + 1 := by omega
  have h4 : (-1 + ((n : Int) + 1)).toNat = n := by omega
  simp [ixN, h3, h4]
@[simp] theorem atI_last {α : Type} {a : α} {L : List α} : atI (L ++ [a]) (-1) = some a := by
  unfold atI
  rw [List.length_append, List.length_singleton, ixN_last]
  simp
@[simp] theorem set_last {α : Type} {a b : α} {L : List α} : (L ++ [a]).set L.length b = L ++ [b] := by
  simp
/-- things that can be sorted -/
structure Bord {β : Type} (enc : β → D) (key : β → PyData) : Prop where
  py : ∀ b, (enc b).py = some (key b)
  inj : ∀ a b, PySem.W.keyToks (key a) = PySem.W.keyToks (key b) → a = b
  al : ∀ a b, PySem.W.alike (key a) (key b) = true
  tup : ∀ a, ∃ x r, key a = .tuple (x :: r)
  pl : ∀ a, (key a).plain = true
  dp : ∀ a, (key a).depth ≤ 50
  lt : ∀ a b, opLt (enc a) (enc b) = opLtD (enc a) (enc b)
  cl : ∀ a, (key a).canLay0 = true
section
variable {β : Type} {enc : β → D} {key : β → PyData}
abbrev leK (key : β → PyData) : β → β → Bool := PySem.W.dataLe false key
noncomputable def srt (key : β → PyData) (L : List β) : List β := L.mergeSort (leK key)
theorem leK_def {a b : β} : leK key a b = !PySem.W.dataLt (key b) (key a) := rfl
theorem leK_total : PySem.W.TotalLe (leK key) := PySem.W.sortLe_total _ _ _
theorem Bord.anti (o : Bord enc key) {a b : β} (h : leK key a b = true) (h2 : leK key b a = true) : a = b := by
  refine o.inj a b (PyProof.Rows.lex_total (O := itemOrd) _ _ ?_ ?_)
  · have : (!PySem.W.dataLt (key a) (key b)) = true := h2
    show PySem.W.dataLt (key a) (key b) = false
    simpa using this
  · have : (!PySem.W.dataLt (key b) (key a)) = true := h
    show PySem.W.dataLt (key b) (key a) = false
    simpa using this
theorem Bord.eqv (o : Bord enc key) {a b : β} : PyData.eqv (key a) (key b) = true ↔ a = b := by
  refine ⟨fun h => o.inj a b ((PySem.W.toks_eqv _ _ (o.al a b)).1 h), ?_⟩
  rintro rfl
  exact PySem.W.eqv_refl_alike _ (o.al a a)
theorem Bord.opLt (o : Bord enc key) {a b : β} : opLt (enc a) (enc b) = some (.val (.bl (!leK key b a))) := by
  rw [o.lt, opLtD, o.py, o.py]
  show (if PySem.W.alike (key a) (key b) = true ∧ (key a).depth ≤ 60 then _ else _) = _
  rw [if_pos ⟨o.al a b, by have := o.dp a; omega⟩, leK_def, Bool.not_not]
theorem Bord.pyA (o : Bord enc key) : ∀ L : List β, D.pyA (L.map enc) = some (L.map key)
  | [] => rfl
  | a :: L => by
    rw [List.map_cons, List.map_cons]
    simp only [D.pyA, o.py, o.pyA L]
theorem Bord.sorted (o : Bord enc key) (L : List β) : fSorted [.lst (L.map enc)] = some (.new (.lst ((srt key L).map enc))) := by
  have e : (L.map enc).zip (L.map key) = L.map fun b => (enc b, key b) := by
    rw [List.zip_map']
  have h1 : PySem.W.AllAlike (L.map key) := by
    intro d hd d' hd'
    obtain ⟨a, _, rfl⟩ := List.mem_map.mp hd
    obtain ⟨b, _, rfl⟩ := List.mem_map.mp hd'
    exact o.al a b
  have h2 : PySem.W.Sortable (L.map key) := .inl fun d hd => by
    obtain ⟨a, _, rfl⟩ := List.mem_map.mp hd
    exact o.tup a
  have h3 : ∀ p ∈ L.map key, p.depth ≤ 50 := fun d hd => by
    obtain ⟨a, _, rfl⟩ := List.mem_map.mp hd
    exact o.dp a
  unfold fSorted
  simp only [o.pyA L]
  rw [if_pos ⟨h1, h2, h3⟩, e]
  have m : (L.mergeSort (leK key)).map (fun b => (enc b, key b)) = (L.map fun b => (enc b, key b)).mergeSort leP := List.map_mergeSort (fun a _ b _ => rfl)
  rw [← m, List.map_map]
  rfl
theorem srt_perm (L : List β) : (srt key L).Perm L := List.mergeSort_perm _ _
theorem srt_pw (L : List β) : (srt key L).Pairwise fun a b => leK key a b = true := PySem.W.sort_pairwise leK_total L
@[simp] theorem eqB_nil : eqB (.lst []) (.lst []) = some true := rfl
end
/-- blocks: is the word "private"? -/
abbrev Bk := Int × Int × Bool
def wd (p : Bool) : Str := if p then "private" else "busy"
@[simp] theorem wd_t : wd true = "private" := rfl
@[simp] theorem wd_f : wd false = "busy" := rfl
theorem wd_inj {p q : Bool} (h : wd p = wd q) : p = q := by
  cases p <;> cases q <;> first | rfl | (exact absurd h (by decide +kernel))
def bkD (b : Bk) : D := .tup [.int b.1, .int b.2.1, .str (wd b.2.2)]
def bkP (b : Bk) : PyData := .tuple [.int b.1, .int b.2.1, .str (wd b.2.2)]
theorem bkO : Bord bkD bkP where
  py _ := rfl
  inj a b h := by
    obtain ⟨x, y, z⟩ := a
    obtain ⟨x', y', z'⟩ := b
    simp [bkP, PySem.W.keyToks, PySem.W.keyToksAll] at h
    obtain ⟨rfl, rfl, h⟩ := h
    rw [wd_inj (PySem.W.str_of_cps (by first | exact h | rw [h]) : wd z = wd z')]
  al _ _ := rfl
  tup _ := ⟨_, _, rfl⟩
  pl _ := rfl
  dp b := by simp [bkP, PyData.depth, PyData.depthAll]
  lt _ _ := rfl
  cl b := by
    obtain ⟨x, y, z⟩ := b
    cases z <;> exact (by simp [bkP, PyData.canLay0, PyData.canLayAll0]; decide +kernel)
end DL
set_option linter.all false
set_option maxRecDepth 100000
set_option maxHeartbeats 1000000
namespace DL
open PySem PySem.Spec PyProof.Rows L2 DD
end DL
set_option linter.all false
set_option maxRecDepth 100000
set_option maxHeartbeats 1000000
namespace DL
open PySem PySem.Spec PyProof.Rows L2 DD
/-- a comprehension, step by step -/
theorem lc_fm {α : Type} {vs : List Nat} {U : Tg} {T : En → Res Bool} {A : En → Res X} {enc : α → D} (f : α → Option D) {ρ : En} : ∀ {L : List α} {acc : List D}, (∀ x ∈ L, ∀ ds acc, acc.length < 100000 → lcL vs U T A (enc x :: ds) ρ acc = lcL vs U T A ds ρ (acc ++ (f x).toList)) → L.length + acc.length ≤ 100000 → lcL vs U T A (L.map enc) ρ acc = .ok (acc ++ L.filterMap f) ρ
  | [], acc, _, _ => by simp [lcL]
  | x :: L, acc, h, hz => by
    rw [List.map_cons, h x List.mem_cons_self _ _ (by simp at hz; omega), lc_fm f (L := L) (fun y hy => h y (List.mem_cons_of_mem _ hy)) (by
      simp at hz ⊢
      cases f x <;> simp <;> omega)]
    cases e : f x <;> simp [List.filterMap_cons, e]
def dn (t s : Int) : Int := t / s * s
def up (t s : Int) : Int := (t + s - 1) / s * s
theorem put_down_v {c : Cl} {t s : Int} (h : 1 ≤ s) (h2 : s ≤ 1000) : Gives 2 (D_put_down c) [.int t, .int s] (.val (.int (dn t s))) := by
  have h3 : 0 < s := by omega
  have h4 : CDiv t s := ⟨h3, by omega⟩
  have h5 : ∀ i, CMul i s := fun i => .inr ⟨by omega, by omega⟩
  simp [Gives, D_put_down, h4, h5, dn]
theorem put_up_v {c : Cl} {t s : Int} (h : 1 ≤ s) (h2 : s ≤ 1000) : Gives 2 (D_put_up c) [.int t, .int s] (.val (.int (up t s))) := by
  have h3 : 0 < s := by omega
  have h4 : ∀ i, CDiv i s := fun i => ⟨h3, by omega⟩
  have h5 : ∀ i, CMul i s := fun i => .inr ⟨by omega, by omega⟩
  simp [Gives, D_put_up, h4, h5, up]
/-- the word of a meeting -/
def wordOf (p : Str) (priv : Bool) : Option Bool := if priv = false ∨ p = "busy" then some false else if p = "none" then none else some true
def wordD : Option Bool → D
  | none => .non
  | some w => .str (wd w)
theorem word_v {c : Cl} {r : Ru} {b : Bool} : Gives 2 (D_word_shown c) [rvD c r, .bl b] (.val (wordD (wordOf r.p b))) := by
  cases b
  · simp [Gives, D_word_shown, rvD, wordOf, wordD]
  · by_cases h : r.p = "busy"
    · simp [Gives, D_word_shown, rvD, wordOf, wordD, h]
    · by_cases h2 : r.p = "none"
      · simp [Gives, D_word_shown, rvD, wordOf, wordD, h2]
      · simp [Gives, D_word_shown, rvD, wordOf, wordD, h, h2]
def spanOf (r : Ru) (w : Bool) (m : Mt) : Option (Int × Int) := if wordOf r.p m.2.2 = some w then some (dn m.1 r.s, up m.2.1 r.s) else none
def seD (x : Int × Int) : D := .tup [.int x.1, .int x.2]
theorem wordD_eq {o : Option Bool} {w : Bool} : eqB (wordD o) (.str (wd w)) = some (decide (o = some w)) := by
  cases o with
  | none => cases w <;> decide +kernel
  | some v => cases v <;> cases w <;> simp [wordD] <;> decide +kernel
end DL
set_option linter.all false
set_option maxRecDepth 100000
set_option maxHeartbeats 1000000
namespace DL
open PySem PySem.Spec PyProof.Rows L2 DD
def isJ (r : Ru) (w : Bool) (e b : Int) : Prop := (w = true ∧ r.p = "one") ∨ b - e ≤ r.g
instance {r : Ru} {w : Bool} {e b : Int} : Decidable (isJ r w e b) := by
  unfold isJ
  infer_instance
theorem is_joined_v {c : Cl} {r : Ru} {w : Bool} {e b : Int} : Gives 4 (D_is_joined c) [rvD c r, .str (wd w), .int e, .int b] (.val (.bl (decide (isJ r w e b)))) := by
  by_cases h : r.p = "one"
  · cases w <;> simp [Gives, D_is_joined, rvD, h, isJ]
  · cases w <;> simp [Gives, D_is_joined, rvD, h, isJ]
def jn (r : Ru) (w : Bool) (J : List (Int × Int)) (x : Int × Int) : List (Int × Int) := match J.getLast? with
  | some y => if isJ r w y.2 x.1 then J.dropLast ++ [(y.1, x.2)] else J ++ [x]
  | none => J ++ [x]
theorem jn_nil {r : Ru} {w : Bool} {x : Int × Int} : jn r w [] x = [x] := rfl
theorem jn_snoc {r : Ru} {w : Bool} {J : List (Int × Int)} {x y : Int × Int} : jn r w (J ++ [y]) x = if isJ r w y.2 x.1 then J ++ [(y.1, x.2)] else J ++ [y] ++ [x] := by
  simp [jn]
theorem jn_len {r : Ru} {w : Bool} {J : List (Int × Int)} {x : Int × Int} : (jn r w J x).length ≤ J.length + 1 := by
  rcases List.eq_nil_or_concat J with rfl | ⟨J', y, rfl⟩
  · simp [jn_nil]
  · rw [List.concat_eq_append, jn_snoc]
    split <;> simp
end DL
set_option linter.all false
set_option maxRecDepth 100000
set_option maxHeartbeats 1000000
namespace DL
open PySem PySem.Spec PyProof.Rows L2 DD
def mx (i j : Int) : Int := if i < j then j else i
def mn (i j : Int) : Int := if j < i then j else i
def cutOf (r : Ru) (x : Int × Int) : Option (Int × Int) := if x.2 - x.1 < r.l then none else match r.h with
  | none => some x
  | some h => if mx x.1 h.1 < mn x.2 h.2 then some (mx x.1 h.1, mn x.2 h.2) else none
def cuD : Option (Int × Int) → D
  | none => .non
  | some x => seD x
theorem span_shown_v {c : Cl} {r : Ru} {x : Int × Int} : Gives 5 (D_span_shown c) [rvD c r, .int x.1, .int x.2] (.val (cuD (cutOf r x))) := by
  by_cases h : x.2 - x.1 < r.l
  · simp [Gives, D_span_shown, rvD, cutOf, h, cuD]
  · cases e : r.h with
    | none => simp [Gives, D_span_shown, rvD, cutOf, h, cuD, e, hoD, seD]
    | some y =>
      by_cases h2 : mx x.1 y.1 < mn x.2 y.2
      · have h3 := h2
        unfold mx mn at h3
        simp [Gives, D_span_shown, rvD, cutOf, h, cuD, e, hoD, seD, h2, h3, mx, mn]
      · have h3 := h2
        unfold mx mn at h3
        simp [Gives, D_span_shown, rvD, cutOf, h, cuD, e, hoD, seD, h2, h3, mx, mn]
def jnd (r : Ru) (w : Bool) (ms : List Mt) : List (Int × Int) := (ms.filterMap (spanOf r w)).foldl (jn r w) []
def blk (r : Ru) (w : Bool) (ms : List Mt) : List Bk := ((jnd r w ms).filterMap (cutOf r)).map fun x => (x.1, x.2, w)
theorem jn_fold_len {r : Ru} {w : Bool} : ∀ {S J : List (Int × Int)}, (S.foldl (jn r w) J).length ≤ J.length + S.length
  | [], J => Nat.le_refl _
  | x :: S, J => by
    have h1 := jn_fold_len (r := r) (w := w) (S := S) (J := jn r w J x)
    have h2 := jn_len (r := r) (w := w) (J := J) (x := x)
    show (S.foldl (jn r w) (jn r w J x)).length ≤ J.length + (S.length + 1)
    omega
theorem jnd_len {r : Ru} {w : Bool} {ms : List Mt} : (jnd r w ms).length ≤ ms.length := by
  have h1 := jn_fold_len (r := r) (w := w) (S := ms.filterMap (spanOf r w)) (J := [])
  have h2 := List.length_filterMap_le (spanOf r w) ms
  unfold jnd
  simp at h1
  omega
theorem blk_len {r : Ru} {w : Bool} {ms : List Mt} : (blk r w ms).length ≤ ms.length := by
  have h1 := jnd_len (r := r) (w := w) (ms := ms)
  have h2 := List.length_filterMap_le (cutOf r) (jnd r w ms)
  unfold blk
  simp
  omega
def showL (r : Ru) (ms : List Mt) : List Bk := blk r false ms ++ blk r true ms
end DL
set_option linter.all false
set_option maxRecDepth 100000
set_option maxHeartbeats 1000000
namespace DL
open PySem PySem.Spec PyProof.Rows L2 DD
def tk (b e : Int) : List Int := (List.range (e - b).toNat).map fun n => b + (n : Nat)
def flat (J : List (Int × Int)) : List Int := J.flatMap fun x => tk x.1 x.2
theorem mem_tk {b e t : Int} : t ∈ tk b e ↔ b ≤ t ∧ t < e := by
  simp only [tk, List.mem_map, List.mem_range]
  constructor
  · rintro ⟨n, h, rfl⟩
    omega
  · rintro ⟨h1, h2⟩
    exact ⟨(t - b).toNat, by omega, by omega⟩
theorem tk_snoc {b e : Int} (h : b ≤ e) : tk b (e + 1) = tk b e ++ [e] := by
  have h1 : (e + 1 - b).toNat = (e - b).toNat + 1 := by omega
  have h2 : b + ((e - b).toNat : Int) = e := by omega
  rw [tk, h1, List.range_succ, List.map_append]
  simp only [List.map_cons, List.map_nil, h2]
  rfl
theorem tk_self {b : Int} : tk b b = [] := by simp [tk]
theorem tk_add {a b : Int} (h : a ≤ b) : ∀ {n : Nat}, tk a b ++ tk b (b + (n : Nat)) = tk a (b + (n : Nat))
  | 0 => by
    simp [tk_self]
  | n + 1 => by
    have e : b + ((n + 1 : Nat) : Int) = b + (n : Nat) + 1 := by omega
    rw [e, tk_snoc (by omega), ← List.append_assoc, tk_add h, tk_snoc (by omega)]
theorem tk_app {a b e : Int} (h : a ≤ b) (h2 : b ≤ e) : tk a b ++ tk b e = tk a e := by
  have := tk_add h (n := (e - b).toNat)
  rwa [show b + ((e - b).toNat : Int) = e by omega] at this
theorem tk_len {b e : Int} (h : b ≤ e) : ((tk b e).length : Int) = e - b := by
  simp [tk]
  omega
/-- spans in their order, not touching, up to a tick -/
structure Spc (a : Int) (J : List (Int × Int)) : Prop where
  one : ∀ x ∈ J, 0 ≤ x.1 ∧ x.1 < x.2 ∧ x.2 ≤ a
  two : J.Pairwise fun x y => x.2 < y.1
theorem Spc.nil {a : Int} : Spc a [] := ⟨fun x h => by simp at h, .nil⟩
theorem Spc.mono {a b : Int} {J : List (Int × Int)} (h : Spc a J) (hb : a ≤ b) : Spc b J := ⟨fun x hx => by have := h.one x hx; omega, h.two⟩
theorem Spc.init {a : Int} {J : List (Int × Int)} {y : Int × Int} (h : Spc a (J ++ [y])) : Spc y.1 J := ⟨fun x hx => by
  have h1 := h.one x (by simp [hx])
  have h2 := (List.pairwise_append.mp h.two).2.2 x hx y (by simp)
  omega, (List.pairwise_append.mp h.two).1⟩
theorem Spc.snoc {a b : Int} {J : List (Int × Int)} {y : Int × Int} (h : Spc a J) (h0 : 0 ≤ y.1) (h1 : ∀ x ∈ J, x.2 < y.1) (h2 : y.1 < y.2) (h3 : y.2 ≤ b) (h4 : a ≤ b) : Spc b (J ++ [y]) := ⟨fun x hx => by
  rw [List.mem_append] at hx
  rcases hx with hx | hx
  · have := h.one x hx
    omega
  · simp at hx
    subst hx
    omega, by
  rw [List.pairwise_append]
  refine ⟨h.two, by simp, fun x hx z hz => ?_⟩
  simp at hz
  subst hz
  exact h1 x hx⟩
theorem flat_snoc {J : List (Int × Int)} {y : Int × Int} : flat (J ++ [y]) = flat J ++ tk y.1 y.2 := by simp [flat]
theorem mem_flat {a : Int} {J : List (Int × Int)} (h : Spc a J) {t : Int} (ht : t ∈ flat J) : 0 ≤ t ∧ t < a := by
  simp only [flat, List.mem_flatMap] at ht
  obtain ⟨x, hx, h1⟩ := ht
  have h2 := mem_tk.mp h1
  have h3 := h.one x hx
  omega
theorem flat_len {a : Int} (ha : 0 ≤ a) : ∀ {J : List (Int × Int)}, Spc a J → ((flat J).length : Int) ≤ a := by
  intro J
  generalize hn : J.length = n
  induction n generalizing J a with
  | zero =>
    intro _
    rw [List.length_eq_zero_iff.mp hn]
    simpa [flat] using ha
  | succ n ih =>
    intro h
    rcases List.eq_nil_or_concat J with rfl | ⟨J', y, rfl⟩
    · cases hn
    · rw [List.concat_eq_append] at h hn ⊢
      have h1 := h.one y (by simp)
      have h2 := ih h1.1 (J := J') (by simp at hn; omega) h.init
      have h3 := tk_len (b := y.1) (e := y.2) (by omega)
      rw [flat_snoc, List.length_append]
      omega
theorem dn_law {b s : Int} : b - b % s = dn b s := by
  have := Int.emod_add_mul_ediv b s
  rw [dn, Int.mul_comm]
  omega
theorem up_law {e s : Int} (h : 1 ≤ s) : e + (0 - e) % s = up e s := by
  have h1 := Int.emod_add_mul_ediv (e + s - 1) s
  have h2 := Int.emod_nonneg (e + s - 1) (by omega : s ≠ 0)
  have h3 := Int.emod_lt_of_pos (e + s - 1) (by omega : 0 < s)
  have h4 : (0 - e) % s = (up e s - e) % s := by
    rw [show up e s - e = (0 - e) + s * ((e + s - 1) / s) by rw [up, Int.mul_comm]; omega, Int.add_mul_emod_self_left]
  rw [h4, Int.emod_eq_of_lt (by rw [up, Int.mul_comm]; omega) (by rw [up, Int.mul_comm]; omega)]
  omega
theorem dn_le {b s : Int} (h : 1 ≤ s) : dn b s ≤ b ∧ b < dn b s + s := by
  have h1 := Int.emod_add_mul_ediv b s
  have h2 := Int.emod_nonneg b (by omega : s ≠ 0)
  have h3 := Int.emod_lt_of_pos b (by omega : 0 < s)
  rw [dn, Int.mul_comm]
  omega
theorem dn_nonneg {b s : Int} (h : 1 ≤ s) (hb : 0 ≤ b) : 0 ≤ dn b s := Int.mul_nonneg (Int.ediv_nonneg hb (by omega)) (by omega)
theorem le_up {e s : Int} (h : 1 ≤ s) : e ≤ up e s ∧ up e s < e + s := by
  have h1 := Int.emod_add_mul_ediv (e + s - 1) s
  have h2 := Int.emod_nonneg (e + s - 1) (by omega : s ≠ 0)
  have h3 := Int.emod_lt_of_pos (e + s - 1) (by omega : 0 < s)
  rw [up, Int.mul_comm]
  omega
theorem up_mono {a b s : Int} (h : 1 ≤ s) (hab : a ≤ b) : up a s ≤ up b s := Int.mul_le_mul_of_nonneg_right (Int.ediv_le_ediv (by omega) (by omega)) (by omega)
end DL
set_option linter.all false
set_option maxRecDepth 100000
set_option maxHeartbeats 1000000
namespace DL
open PySem PySem.Spec PyProof.Rows L2 DD
theorem eqB_lst_nil {β : Type} {enc : β → D} {key : β → PyData} (py : ∀ b, (enc b).py = some (key b)) (cl : ∀ b, (key b).canLay0 = true) (dp : ∀ b, (key b).depth ≤ 50) (L : List β) : eqB (.lst (L.map enc)) (.lst []) = some L.isEmpty := by
  have h1 : ∀ L : List β, D.pyA (L.map enc) = some (L.map key) := by
    intro L
    induction L with
    | nil => rfl
    | cons a L ih =>
      rw [List.map_cons, List.map_cons]
      simp only [D.pyA, py, ih]
  have h2 : ∀ L : List β, PyData.canLayAll0 (L.map key) = true := by
    intro L
    induction L with
    | nil => rfl
    | cons a L ih =>
      rw [List.map_cons]
      simp only [PyData.canLayAll0, cl a, ih, Bool.and_self]
  have h3 : ∀ L : List β, PyData.depthAll (L.map key) ≤ 50 := by
    intro L
    induction L with
    | nil => simp [PyData.depthAll]
    | cons a L ih =>
      rw [List.map_cons]
      simp only [PyData.depthAll]
      have := dp a
      omega
  have hs : SeqAt.shaped (.list (L.map key)) = true := by
    unfold SeqAt.shaped
    simp only [PyData.canLay0, h2 L, Bool.true_and, PyData.depth]
    have := h3 L
    simp
    omega
  have h : (D.lst (L.map enc)).py = some (.list (L.map key)) := by simp only [D.py, h1 L, Option.map]
  show (match (D.lst (L.map enc)).py, (D.lst []).py with
    | some p, some q => if SeqAt.shaped p = true ∧ SeqAt.shaped q = true then some (PyData.eqv p q) else none
    | _, _ => match D.lst (L.map enc), D.lst [] with
      | .lst ds, .lst es => if ds.length = es.length then none else some false
      | _, _ => none) = _
  rw [h]
  show (if SeqAt.shaped (.list (L.map key)) = true ∧ SeqAt.shaped (.list []) = true then some (PyData.eqv (.list (L.map key)) (.list [])) else none) = _
  rw [if_pos ⟨hs, rfl⟩]
  cases L with
  | nil => rfl
  | cons a L => rfl
theorem eqB_ints_nil (L : List Int) : eqB (.lst (L.map D.int)) (.lst []) = some L.isEmpty := eqB_lst_nil (key := PyData.int) (fun _ => rfl) (fun _ => rfl) (fun b => by simp [PyData.depth]) L
theorem eqB_se_nil (L : List (Int × Int)) : eqB (.lst (L.map seD)) (.lst []) = some L.isEmpty := eqB_lst_nil (key := fun x => PyData.tuple [.int x.1, .int x.2]) (fun _ => rfl) (fun _ => rfl) (fun b => by simp [PyData.depth, PyData.depthAll]) L
/-- the tuple of a rule, of a day, in the laws -/
def dtD (n : Int) (ms : List Mt) : D := .tup [.int n, .lst (ms.map mtD)]
theorem endOf_nonneg : ∀ {a : Int} {ms : List Mt}, 0 ≤ a → Meets a ms → a ≤ endOf a ms
  | a, [], _, _ => Int.le_refl _
  | a, m :: ms, h0, h => by
    have := endOf_nonneg (a := m.2.1) (by have := h.1; have := h.2.1; omega) h.2.2
    have := h.1
    have := h.2.1
    show a ≤ endOf m.2.1 ms
    omega
/-- what painting does with a meeting of the word -/
noncomputable def PB : En → SR :=
  (sSeq (sSet 8 (dBin opSub (dVar 4) (dBin opMod (dCB fInt (aCons (dVar 4) aNil)) (dBin opIx (dVar 0) (dC (.int 0)))))) (sSeq (sSet 9 (dBin opAdd (dVar 5) (dBin opMod (dCB fInt (aCons (dBin opSub (dC (.int 0)) (dVar 5)) aNil)) (dBin opIx (dVar 0) (dC (.int 0)))))) (sSeq (sSet 10 (dIfE (dTest (dBin opNe (dVar 3) (dLst aNil))) (dBin opIx (dVar 3) (dUn opNeg (dC (.int 1)))) (dBin opSub (dC (.int 0)) (dC (.int 99))))) (sSeq (sSet 11 (dAnd (dBin opGe (dVar 10) (dC (.int 0))) (dAnd (dBin opEq (dVar 2) (dC (.str "private"))) (dBin opEq (dBin opIx (dVar 0) (dC (.int 3))) (dC (.str "one")))))) (sSeq (sIf (tor (dTest (dBin opLe (dBin opSub (dBin opSub (dVar 8) (dVar 10)) (dC (.int 1))) (dBin opIx (dVar 0) (dC (.int 1))))) (dTest (dVar 11))) (sSet 8 (dBin opAdd (dVar 10) (dC (.int 1)))) sNext) (sDrop (eMut 3 mExtend (aCons (dLc (dRng2 (dVar 8) (dVar 9)) [12] (uName 12) (dTest (dBin opNotIn (dVar 12) (dVar 3))) (dVar 12)) aNil))))))))
theorem pb_eq {c : Cl} : D__law_painted_b1 c = (sSeq (sSet 7 (dIfE (tnd (dTest (dVar 6)) (dTest (dBin opIn (dBin opIx (dVar 0) (dC (.int 3))) (dTup (aCons (dC (.str "apart")) (aCons (dC (.str "one")) aNil)))))) (dC (.str "private")) (dC (.str "busy")))) (sIf (tnd (dTest (dBin opEq (dVar 7) (dVar 2))) (tnot (tnd (dTest (dVar 6)) (dTest (dBin opEq (dBin opIx (dVar 0) (dC (.int 3))) (dC (.str "none"))))))) PB sNext)) := rfl
/-- the ticks that are not there yet -/
theorem lc_tk {Fd : List Int} {b e : Int} {v0 v1 v2 v4 v5 v6 v7 v8 v9 v10 v11 : Slot} (hz : (tk b e).length ≤ 90000) (hn : ∀ t ∈ tk b e, t ∉ Fd) : lcL [12] (uName 12) (dTest (dBin opNotIn (dVar 12) (dVar 3))) (dVar 12) ((List.range (e - b).toNat).map fun n => D.int (b + (n : Nat))) [v0, v1, v2, .own (.lst (Fd.map D.int)), v4, v5, v6, v7, v8, v9, v10, v11, .none] [] = .ok ((tk b e).map D.int) [v0, v1, v2, .own (.lst (Fd.map D.int)), v4, v5, v6, v7, v8, v9, v10, v11, .none] := by
  have L := lc_fm (vs := [12]) (U := uName 12) (T := dTest (dBin opNotIn (dVar 12) (dVar 3))) (A := dVar 12) (enc := D.int) (fun t => if t ∈ Fd then none else some (.int t)) (ρ := [v0, v1, v2, .own (.lst (Fd.map D.int)), v4, v5, v6, v7, v8, v9, v10, v11, .none]) (L := tk b e) (acc := []) (fun t ht ds acc ha => by
    have ha' : acc.length < 16777216 := by omega
    by_cases h : t ∈ Fd
    · simp [lcL, in_ints, h]
    · simp [lcL, in_ints, h, ha']) (by simp; omega)
  have e1 : (tk b e).map D.int = (List.range (e - b).toNat).map fun n => D.int (b + (n : Nat)) := by
    rw [tk, List.map_map]
    rfl
  have e2 : ∀ L : List Int, L.filterMap (fun t => if t ∈ Fd then none else some (D.int t)) = (L.filter fun t => decide (t ∉ Fd)).map D.int := by
    intro L
    induction L with
    | nil => rfl
    | cons a L ih => by_cases h : a ∈ Fd <;> simp [List.filterMap_cons, h, ih]
  have e3 : (tk b e).filter (fun t => decide (t ∉ Fd)) = tk b e := List.filter_eq_self.mpr fun t ht => by simpa using hn t ht
  rw [e1, e2, e3] at L
  rw [L]
  rfl
theorem up_law' {e s : Int} (h : 1 ≤ s) : e + -e % s = up e s := by
  have := up_law (e := e) h
  rwa [Int.zero_sub] at this
theorem pb_nil {r : Ru} (ok : RuOk r) {w p : Bool} {b e : Int} (hb : 0 ≤ b) (he : b < e) (he2 : e ≤ 1000) {d1 : Slot} {s7 s8 s9 s10 s11 : Slot} (f8 : s8.free = true) (f9 : s9.free = true) (f10 : s10.free = true) (f11 : s11.free = true) : ∃ t8 t9 t10 t11 : Slot, PB [.val (ruD r), d1, .val (.str (wd w)), .own (.lst []), .val (.int b), .val (.int e), .val (.bl p), s7, s8, s9, s10, s11, .none] = .nx [.val (ruD r), d1, .val (.str (wd w)), .own (.lst ((tk (dn b r.s) (up e r.s)).map D.int)), .val (.int b), .val (.int e), .val (.bl p), s7, t8, t9, t10, t11, .none] ∧ t8.free = true ∧ t9.free = true ∧ t10.free = true ∧ t11.free = true := by
  have hs := ok.s
  have hs0 : 0 < r.s := by omega
  have hg := ok.g
  have h1 := dn_nonneg (b := b) hs.1 hb
  have h2 := dn_le (b := b) hs.1
  have h3 := le_up (e := e) hs.1
  have hl := tk_len (b := dn b r.s) (e := up e r.s) (by omega)
  have L := lc_tk (Fd := []) (b := dn b r.s) (e := up e r.s) (v0 := .val (ruD r)) (v1 := d1) (v2 := .val (.str (wd w))) (v4 := .val (.int b)) (v5 := .val (.int e)) (v6 := .val (.bl p)) (v7 := s7) (v8 := .val (.int (dn b r.s))) (v9 := .val (.int (up e r.s))) (v10 := .val (.int (-99))) (v11 := .val (.bl false)) (by omega) (by simp)
  simp [ruD] at L
  have c1 : ¬ dn b r.s - -99 - 1 ≤ r.g := by omega
  have c2 : ¬ dn b r.s + 99 - 1 ≤ r.g := by omega
  have r1 : -4611686018427387904 ≤ dn b r.s := by omega
  have r2 : dn b r.s < 4611686018427387904 := by omega
  have r3 : -4611686018427387904 ≤ up e r.s := by omega
  have r4 : up e r.s < 4611686018427387904 := by omega
  have r5 : (tk (dn b r.s) (up e r.s)).length ≤ 16777216 := by omega
  refine ⟨.val (.int (dn b r.s)), .val (.int (up e r.s)), .val (.int (-99)), .val (.bl false), by simp [PB, ruD, hs0, dn_law, up_law' hs.1, f8, f9, f10, f11, c1, c2, lcAll, L, r1, r2, r3, r4, r5], ?_, ?_, ?_, ?_⟩ <;> rfl
theorem pb_cons {r : Ru} (ok : RuOk r) {w p : Bool} {b e z : Int} {G : List Int} (hG : ∀ t ∈ G, t < z) (hb : 0 ≤ b) (he : b < e) (he2 : e ≤ 1000) (hz : 0 ≤ z) (hz2 : z + 1 ≤ up e r.s) (hGl : G.length ≤ 5000) {d1 : Slot} {s7 s8 s9 s10 s11 : Slot} (f8 : s8.free = true) (f9 : s9.free = true) (f10 : s10.free = true) (f11 : s11.free = true) : ∃ t8 t9 t10 t11 : Slot, PB [.val (ruD r), d1, .val (.str (wd w)), .own (.lst ((G ++ [z]).map D.int)), .val (.int b), .val (.int e), .val (.bl p), s7, s8, s9, s10, s11, .none] = .nx [.val (ruD r), d1, .val (.str (wd w)), .own (.lst ((G ++ [z] ++ tk (if isJ r w (z + 1) (dn b r.s) then z + 1 else dn b r.s) (up e r.s)).map D.int)), .val (.int b), .val (.int e), .val (.bl p), s7, t8, t9, t10, t11, .none] ∧ t8.free = true ∧ t9.free = true ∧ t10.free = true ∧ t11.free = true := by
  have hs := ok.s
  have hs0 : 0 < r.s := by omega
  have hg := ok.g
  have h1 := dn_nonneg (b := b) hs.1 hb
  have h2 := dn_le (b := b) hs.1
  have h3 := le_up (e := e) hs.1
  have r3 : -4611686018427387904 ≤ up e r.s := by omega
  have r4 : up e r.s < 4611686018427387904 := by omega
  have en := eqB_ints_nil (G ++ [z])
  have hE : (G ++ [z]).isEmpty = false := by cases G <;> rfl
  rw [hE] at en
  simp at en
  have z0 : ¬ z < 0 := by omega
  by_cases hj : isJ r w (z + 1) (dn b r.s)
  · have hl := tk_len (b := z + 1) (e := up e r.s) (by omega)
    have r1 : -4611686018427387904 ≤ z + 1 := by omega
    have r2 : z + 1 < 4611686018427387904 := by omega
    have r5 : G.length + ((tk (z + 1) (up e r.s)).length + 1) ≤ 16777216 := by omega
    have r6 : G.length + 1 + (tk (z + 1) (up e r.s)).length ≤ 16777216 := by omega
    have L := fun v0 v1 v2 v4 v5 v6 v7 v8 v9 v10 v11 => lc_tk (Fd := G ++ [z]) (b := z + 1) (e := up e r.s) (v0 := v0) (v1 := v1) (v2 := v2) (v4 := v4) (v5 := v5) (v6 := v6) (v7 := v7) (v8 := v8) (v9 := v9) (v10 := v10) (v11 := v11) (by omega) (fun t ht hx => by
      have h5 := mem_tk.mp ht
      rw [List.mem_append] at hx
      rcases hx with hx | hx
      · have := hG t hx
        omega
      · simp at hx
        omega)
    simp at L
    rw [if_pos hj]
    refine ⟨.val (.int (z + 1)), .val (.int (up e r.s)), .val (.int z), .val (.bl (w && decide (r.p = "one"))), ?_, rfl, rfl, rfl, rfl⟩
    unfold isJ at hj
    by_cases c1 : dn b r.s - z - 1 ≤ r.g
    · cases w
      · simp [PB, ruD, hs0, dn_law, up_law' hs.1, f8, f9, f10, f11, c1, lcAll, L, r1, r2, r3, r4, r5, r6, en, z0, hz]
      · simp [PB, ruD, hs0, dn_law, up_law' hs.1, f8, f9, f10, f11, c1, lcAll, L, r1, r2, r3, r4, r5, r6, en, z0, hz]
    · have c2 : w = true ∧ r.p = "one" := hj.resolve_right (by omega)
      obtain ⟨rfl, c3⟩ := c2
      simp [PB, ruD, hs0, dn_law, up_law' hs.1, f8, f9, f10, f11, c1, c3, lcAll, L, r1, r2, r3, r4, r5, r6, en, z0, hz]
  · rw [if_neg hj]
    unfold isJ at hj
    have c0 : ¬ dn b r.s - (z + 1) ≤ r.g := fun h => hj (.inr h)
    have c1 : ¬ dn b r.s - z - 1 ≤ r.g := by omega
    have c2 : ¬ (w = true ∧ r.p = "one") := fun h => hj (.inl h)
    have hl := tk_len (b := dn b r.s) (e := up e r.s) (by omega)
    have r1 : -4611686018427387904 ≤ dn b r.s := by omega
    have r2 : dn b r.s < 4611686018427387904 := by omega
    have r5 : G.length + ((tk (dn b r.s) (up e r.s)).length + 1) ≤ 16777216 := by omega
    have r6 : G.length + 1 + (tk (dn b r.s) (up e r.s)).length ≤ 16777216 := by omega
    have L := fun v0 v1 v2 v4 v5 v6 v7 v8 v9 v10 v11 => lc_tk (Fd := G ++ [z]) (b := dn b r.s) (e := up e r.s) (v0 := v0) (v1 := v1) (v2 := v2) (v4 := v4) (v5 := v5) (v6 := v6) (v7 := v7) (v8 := v8) (v9 := v9) (v10 := v10) (v11 := v11) (by omega) (fun t ht hx => by
      have h5 := mem_tk.mp ht
      rw [List.mem_append] at hx
      rcases hx with hx | hx
      · have := hG t hx
        omega
      · simp at hx
        omega)
    simp at L
    refine ⟨.val (.int (dn b r.s)), .val (.int (up e r.s)), .val (.int z), .val (.bl false), ?_, rfl, rfl, rfl, rfl⟩
    cases w
    · simp [PB, ruD, hs0, dn_law, up_law' hs.1, f8, f9, f10, f11, c1, lcAll, L, r1, r2, r3, r4, r5, r6, en, z0, hz]
    · have c3 : ¬ r.p = "one" := fun h => c2 ⟨rfl, h⟩
      simp [PB, ruD, hs0, dn_law, up_law' hs.1, f8, f9, f10, f11, c1, c3, lcAll, L, r1, r2, r3, r4, r5, r6, en, z0, hz]
end DL
set_option linter.all false
set_option maxRecDepth 100000
set_option maxHeartbeats 1000000
namespace DL
open PySem PySem.Spec PyProof.Rows L2 DD
theorem pb_in {c : Cl} {r : Ru} (ok : RuOk r) {w p : Bool} (h : wordOf r.p p = some w) {d1 F v4 v5 s7 s8 s9 s10 s11 : Slot} (f7 : s7.free = true) : ∃ t7 : Slot, D__law_painted_b1 c [.val (ruD r), d1, .val (.str (wd w)), F, v4, v5, .val (.bl p), s7, s8, s9, s10, s11, .none] = PB [.val (ruD r), d1, .val (.str (wd w)), F, v4, v5, .val (.bl p), t7, s8, s9, s10, s11, .none] ∧ t7.free = true := by
  refine ⟨.val (.str (wd w)), ?_, rfl⟩
  rw [pb_eq]
  cases p
  · simp [wordOf] at h
    subst h
    simp [ruD, f7]
  · have h4 := ok.p
    simp at h4
    rcases h4 with e | e | e | e
    · simp [wordOf, e] at h
      subst h
      simp [ruD, f7, e]
    · simp [wordOf, e] at h
    · simp [wordOf, e] at h
      subst h
      simp [ruD, f7, e]
    · simp [wordOf, e] at h
      subst h
      simp [ruD, f7, e]
theorem pb_out {c : Cl} {r : Ru} (ok : RuOk r) {w p : Bool} (h : ¬ wordOf r.p p = some w) {d1 F v4 v5 s7 s8 s9 s10 s11 : Slot} (f7 : s7.free = true) : ∃ t7 : Slot, D__law_painted_b1 c [.val (ruD r), d1, .val (.str (wd w)), F, v4, v5, .val (.bl p), s7, s8, s9, s10, s11, .none] = .nx [.val (ruD r), d1, .val (.str (wd w)), F, v4, v5, .val (.bl p), t7, s8, s9, s10, s11, .none] ∧ t7.free = true := by
  have ne1 : ¬ (Str.ofString "busy" = Str.ofString "private") := by decide +kernel
  have ne2 : ¬ (Str.ofString "private" = Str.ofString "busy") := by decide +kernel
  rw [pb_eq]
  cases p
  · simp [wordOf] at h
    subst h
    refine ⟨.val (.str "busy"), ?_, rfl⟩
    simp [ruD, f7, ne1, ne2]
  · have h4 := ok.p
    simp at h4
    rcases h4 with e | e | e | e
    · simp [wordOf, e] at h
      subst h
      refine ⟨.val (.str "busy"), ?_, rfl⟩
      simp [ruD, f7, e, ne1, ne2]
    · refine ⟨.val (.str "busy"), ?_, rfl⟩
      cases w <;> simp [ruD, f7, e, ne1, ne2]
    · simp [wordOf, e] at h
      subst h
      refine ⟨.val (.str "private"), ?_, rfl⟩
      simp [ruD, f7, e, ne1, ne2]
    · simp [wordOf, e] at h
      subst h
      refine ⟨.val (.str "private"), ?_, rfl⟩
      simp [ruD, f7, e, ne1, ne2]
theorem painted_v {c : Cl} {r : Ru} (ok : RuOk r) {n : Int} {ms : List Mt} (hm : Meets 0 ms) (hn : endOf 0 ms ≤ 1000) {w : Bool} : Gives 13 (D__law_painted c) [ruD r, dtD n ms, .str (wd w)] (.new (.lst ((flat (jnd r w ms)).map D.int))) ∧ Spc 2000 (jnd r w ms) := by
  have h1s := ok.s.1
  obtain ⟨ρ', e, J, a, s4, s5, s6, s7, s8, s9, s10, s11, rfl, _, _, _, _, _, _, _, _, hJ, hS, ha⟩ := forL_inv (U := uTup 3 (usCons (uName 4) (usCons (uName 5) (usCons (uName 6) usNil)))) (B := D__law_painted_b1 c) (ds := ms.map mtD) (fun i ρ => ∃ (J : List (Int × Int)) (a : Int) (s4 s5 s6 s7 s8 s9 s10 s11 : Slot), ρ = [.val (ruD r), .val (dtD n ms), .val (.str (wd w)), .own (.lst ((flat J).map D.int)), s4, s5, s6, s7, s8, s9, s10, s11, .none] ∧ s4.free = true ∧ s5.free = true ∧ s6.free = true ∧ s7.free = true ∧ s8.free = true ∧ s9.free = true ∧ s10.free = true ∧ s11.free = true ∧ J = ((ms.take i).filterMap (spanOf r w)).foldl (jn r w) [] ∧ Spc (up (endOf 0 (ms.take i)) r.s) J ∧ True) (fun i hi ρ hw => by
    obtain ⟨J, a, s4, s5, s6, s7, s8, s9, s10, s11, rfl, f4, f5, f6, f7, f8, f9, f10, f11, hJ, hS, _⟩ := hw
    simp at hi
    obtain ⟨g1, g2, g3, g4⟩ := Meets.at hm hi
    have g5 := endOf_le (i := i + 1) hm
    have e1 : ((ms.take (i + 1)).filterMap (spanOf r w)).foldl (jn r w) [] = match spanOf r w ms[i] with
      | some x => jn r w J x
      | none => J := by
      rw [List.take_add_one, List.filterMap_append, List.foldl_append, ← hJ]
      cases e : spanOf r w ms[i] <;> simp [hi, e]
    have g6 : 0 ≤ endOf 0 (ms.take i) := g4
    have g7 : endOf 0 (ms.take (i + 1)) ≤ 1000 := by omega
    have hst : stepL (uTup 3 (usCons (uName 4) (usCons (uName 5) (usCons (uName 6) usNil)))) (D__law_painted_b1 c) (ms.map mtD)[i] [.val (ruD r), .val (dtD n ms), .val (.str (wd w)), .own (.lst ((flat J).map D.int)), s4, s5, s6, s7, s8, s9, s10, s11, .none] = D__law_painted_b1 c [.val (ruD r), .val (dtD n ms), .val (.str (wd w)), .own (.lst ((flat J).map D.int)), .val (.int ms[i].1), .val (.int ms[i].2.1), .val (.bl ms[i].2.2), s7, s8, s9, s10, s11, .none] := by
      simp [mtD, f4, f5, f6]
    rw [hst]
    have hup : up (endOf 0 (ms.take i)) r.s ≤ up (endOf 0 (ms.take (i + 1))) r.s := up_mono h1s (by omega)
    by_cases hw : wordOf r.p ms[i].2.2 = some w
    · have hx : spanOf r w ms[i] = some (dn ms[i].1 r.s, up ms[i].2.1 r.s) := by simp [spanOf, hw]
      rw [hx] at e1
      dsimp only at e1
      obtain ⟨t7, e7, ft7⟩ := pb_in (c := c) ok hw (d1 := .val (dtD n ms)) (F := .own (.lst ((flat J).map D.int))) (v4 := .val (.int ms[i].1)) (v5 := .val (.int ms[i].2.1)) (s8 := s8) (s9 := s9) (s10 := s10) (s11 := s11) f7
      rw [e7]
      have d1 := dn_nonneg (b := ms[i].1) h1s (by omega)
      have d2 := dn_le (b := ms[i].1) h1s
      have d3 := le_up (e := ms[i].2.1) h1s
      rw [g3] at hup
      rcases List.eq_nil_or_concat J with hJ0 | ⟨J', y, hJ0⟩
      · subst hJ0
        obtain ⟨t8, t9, t10, t11, ep, q8, q9, q10, q11⟩ := pb_nil ok (w := w) (p := ms[i].2.2) (b := ms[i].1) (e := ms[i].2.1) (by omega) g2 (by omega) (d1 := .val (dtD n ms)) (s7 := t7) f8 f9 f10 f11
        refine ⟨_, .inl ep, jn r w [] (dn ms[i].1 r.s, up ms[i].2.1 r.s), 0, .val (.int ms[i].1), .val (.int ms[i].2.1), .val (.bl ms[i].2.2), t7, t8, t9, t10, t11, by rw [jn_nil]; simp [flat], rfl, rfl, rfl, ft7, q8, q9, q10, q11, e1.symm, ?_, trivial⟩
        rw [jn_nil, g3]
        exact Spc.snoc (J := []) (y := (dn ms[i].1 r.s, up ms[i].2.1 r.s)) (a := 0) Spc.nil d1 (fun x hx => by simp at hx) (by show dn ms[i].1 r.s < up ms[i].2.1 r.s; omega) (Int.le_refl _) (by show 0 ≤ up ms[i].2.1 r.s; omega)
      · rw [List.concat_eq_append] at hJ0
        subst hJ0
        have hy := hS.one y (by simp)
        have hy2 : tk y.1 y.2 = tk y.1 (y.2 - 1) ++ [y.2 - 1] := by
          have := tk_snoc (b := y.1) (e := y.2 - 1) (by omega)
          rwa [show y.2 - 1 + 1 = y.2 by omega] at this
        have hfl : flat (J' ++ [y]) = (flat J' ++ tk y.1 (y.2 - 1)) ++ [y.2 - 1] := by rw [flat_snoc, hy2, List.append_assoc]
        have hfn := flat_len (a := up (endOf 0 (ms.take i)) r.s) (by omega) hS
        have hu2 := le_up (e := endOf 0 (ms.take i)) h1s
        have hs8 := ok.s.2
        obtain ⟨t8, t9, t10, t11, ep, q8, q9, q10, q11⟩ := pb_cons ok (w := w) (p := ms[i].2.2) (b := ms[i].1) (e := ms[i].2.1) (z := y.2 - 1) (G := flat J' ++ tk y.1 (y.2 - 1)) (fun t ht => by
          rw [List.mem_append] at ht
          rcases ht with ht | ht
          · have := mem_flat hS.init ht
            omega
          · have := mem_tk.mp ht
            omega) (by omega) g2 (by omega) (by omega) (by omega) (by
          rw [hfl, List.length_append] at hfn
          omega) (d1 := .val (dtD n ms)) (s7 := t7) f8 f9 f10 f11
        rw [← hfl, show y.2 - 1 + 1 = y.2 by omega] at ep
        refine ⟨_, .inl ep, jn r w (J' ++ [y]) (dn ms[i].1 r.s, up ms[i].2.1 r.s), 0, .val (.int ms[i].1), .val (.int ms[i].2.1), .val (.bl ms[i].2.2), t7, t8, t9, t10, t11, ?_, rfl, rfl, rfl, ft7, q8, q9, q10, q11, e1.symm, ?_, trivial⟩
        · rw [jn_snoc]
          by_cases hj : isJ r w y.2 (dn ms[i].1 r.s)
          · rw [if_pos hj, if_pos hj, flat_snoc, flat_snoc, List.append_assoc, tk_app (by omega) (by omega)]
          · rw [if_neg hj, if_neg hj, flat_snoc (J := J' ++ [y])]
        · rw [jn_snoc, g3]
          by_cases hj : isJ r w y.2 (dn ms[i].1 r.s)
          · rw [if_pos hj]
            exact Spc.snoc (J := J') (y := (y.1, up ms[i].2.1 r.s)) (a := y.1) hS.init hy.1 (fun x hx => by
              exact (List.pairwise_append.mp hS.two).2.2 x hx y (by simp)) (by show y.1 < up ms[i].2.1 r.s; omega) (Int.le_refl _) (by show y.1 ≤ up ms[i].2.1 r.s; omega)
          · rw [if_neg hj]
            have hj2 : ¬ dn ms[i].1 r.s - y.2 ≤ r.g := fun h => hj (.inr h)
            have hg := ok.g.1
            exact Spc.snoc (J := J' ++ [y]) (y := (dn ms[i].1 r.s, up ms[i].2.1 r.s)) hS d1 (fun x hx => by
              rw [List.mem_append] at hx
              show x.2 < dn ms[i].1 r.s
              rcases hx with hx | hx
              · have h5 := (List.pairwise_append.mp hS.two).2.2 x hx y (by simp)
                omega
              · simp at hx
                subst hx
                omega) (by show dn ms[i].1 r.s < up ms[i].2.1 r.s; omega) (Int.le_refl _) hup
    · have hx : spanOf r w ms[i] = none := by simp [spanOf, hw]
      rw [hx] at e1
      dsimp only at e1
      obtain ⟨t7, e7, ft7⟩ := pb_out (c := c) ok hw (d1 := .val (dtD n ms)) (F := .own (.lst ((flat J).map D.int))) (v4 := .val (.int ms[i].1)) (v5 := .val (.int ms[i].2.1)) (s8 := s8) (s9 := s9) (s10 := s10) (s11 := s11) f7
      rw [e7]
      exact ⟨_, .inl rfl, J, 0, .val (.int ms[i].1), .val (.int ms[i].2.1), .val (.bl ms[i].2.2), t7, s8, s9, s10, s11, rfl, rfl, rfl, rfl, ft7, f8, f9, f10, f11, e1.symm, hS.mono hup, trivial⟩) (ρ := [.val (ruD r), .val (dtD n ms), .val (.str (wd w)), .own (.lst []), .none, .none, .none, .none, .none, .none, .none, .none, .none]) ⟨[], 0, .none, .none, .none, .none, .none, .none, .none, .none, rfl, rfl, rfl, rfl, rfl, rfl, rfl, rfl, rfl, rfl, Spc.nil, trivial⟩
  simp at hJ
  have hS' : Spc 2000 J := hS.mono (by
    have := (le_up (e := endOf 0 (ms.take (ms.map mtD).length)) h1s).2
    have := endOf_le (i := (ms.map mtD).length) hm
    have := ok.s.2
    omega)
  refine ⟨?_, by rw [jnd, ← hJ]; exact hS'⟩
  rw [jnd, ← hJ]
  simp [dtD] at e
  simp [Gives, D__law_painted, e, dtD]
end DL
set_option linter.all false
set_option maxRecDepth 100000
set_option maxHeartbeats 1000000
namespace DL
open PySem PySem.Spec PyProof.Rows L2 DD
end DL
set_option linter.all false
set_option maxRecDepth 100000
set_option maxHeartbeats 1000000
namespace DL
open PySem PySem.Spec PyProof.Rows L2 DD
def In (i : Int) : Prop := 0 ≤ i ∧ i ≤ 1100
/-- the text of a number -/
def iT (i : Int) : Str := Str.ofString (toString i)
@[simp] theorem iT_r {i : Int} : Str.ofString i.repr = iT i := rfl
@[simp] theorem iT_s {i : Int} : Str.ofString (toString i) = iT i := rfl
theorem In.len {i : Int} (h : In i) : (iT i).length ≤ 5 := by
  have e := int_text_length_le10 (a := i) (k := 4) (by decide) (by have := h.1; have := h.2; omega)
  show (Str.ofString (toString i)).length ≤ 5
  rw [PySem.ofString_length]
  omega
@[simp] theorem e_app {x : Str} : Str.empty ++ x = x := Str.empty_append x
@[simp] theorem app_e {x : Str} : x ++ Str.ofString "" = x := Str.append_empty x
@[simp] theorem l_dash : (Str.ofString "-").length = 1 := by decide +kernel
@[simp] theorem l_priv : (Str.ofString " private").length = 8 := by decide +kernel
@[simp] theorem l_nil : (Str.ofString "").length = 0 := by decide +kernel
@[simp] theorem l_colon : (Str.ofString ": ").length = 2 := by decide +kernel
@[simp] theorem l_comma : (Str.ofString ", ").length = 2 := by decide +kernel
@[simp] theorem l_sp : (Str.ofString " ").length = 1 := by decide +kernel
end DL
set_option linter.all false
set_option maxRecDepth 100000
set_option maxHeartbeats 1000000
namespace DL
open PySem PySem.Spec PyProof.Rows L2 DD
@[simp] theorem l_hours : (Str.ofString " hours ").length = 7 := by decide +kernel
@[simp] theorem l_step : (Str.ofString "step ").length = 5 := by decide +kernel
@[simp] theorem l_gap : (Str.ofString " gap ").length = 5 := by decide +kernel
@[simp] theorem l_least : (Str.ofString " least ").length = 7 := by decide +kernel
@[simp] theorem l_private : (Str.ofString " private ").length = 9 := by decide +kernel
/-- rules whose numbers are small -/
structure RuT (r : Ru) : Prop where
  s : In r.s
  g : In r.g
  l : In r.l
  p : r.p.length ≤ 5
  h : ∀ x, r.h = some x → In x.1 ∧ In x.2
theorem RuOk.t {r : Ru} (h : RuOk r) : RuT r := by
  have h1 := h.s
  have h2 := h.g
  have h3 := h.l
  refine ⟨⟨by omega, by omega⟩, ⟨by omega, by omega⟩, ⟨by omega, by omega⟩, ?_, fun x e => ?_⟩
  · have := h.p
    simp at this
    rcases this with e | e | e | e <;> rw [e] <;> decide +kernel
  · have := h.h x e
    exact ⟨⟨by omega, by omega⟩, ⟨by omega, by omega⟩⟩
end DL
set_option linter.all false
set_option maxRecDepth 100000
set_option maxHeartbeats 1000000
namespace DL
open PySem PySem.Spec PyProof.Rows L2 DD
end DL
set_option linter.all false
set_option maxRecDepth 100000
set_option maxHeartbeats 1000000
namespace DL
open PySem PySem.Spec PyProof.Rows L2 DD
theorem eqB_lst {ds es : List D} {ps qs : List PyData} (h1 : D.pyA ds = some ps) (h2 : D.pyA es = some qs) (s1 : SeqAt.shaped (.list ps) = true) (s2 : SeqAt.shaped (.list qs) = true) : eqB (.lst ds) (.lst es) = some (PyData.eqvAll ps qs) := by
  have e1 : (D.lst ds).py = some (.list ps) := by simp only [D.py, h1, Option.map]
  have e2 : (D.lst es).py = some (.list qs) := by simp only [D.py, h2, Option.map]
  show (match (D.lst ds).py, (D.lst es).py with
    | some p, some q => if SeqAt.shaped p = true ∧ SeqAt.shaped q = true then some (PyData.eqv p q) else none
    | _, _ => match D.lst ds, D.lst es with
      | .lst ds, .lst es => if ds.length = es.length then none else some false
      | _, _ => none) = _
  rw [e1, e2]
  show (if SeqAt.shaped (.list ps) = true ∧ SeqAt.shaped (.list qs) = true then some (PyData.eqv (.list ps) (.list qs)) else none) = _
  rw [if_pos ⟨s1, s2⟩, PyData.eqv]
theorem sh_b4 {a b c d : Bool} : SeqAt.shaped (.list [.bool a, .bool b, .bool c, .bool d]) = true := by
  simp [SeqAt.shaped, PyData.canLay0, PyData.canLayAll0, PyData.depth, PyData.depthAll]
@[simp] theorem eq_b4 {a b c d a' b' c' d' : Bool} : eqB (.lst [.bl a, .bl b, .bl c, .bl d]) (.lst [.bl a', .bl b', .bl c', .bl d']) = some (decide (a = a' ∧ b = b' ∧ c = c' ∧ d = d')) := by
  rw [eqB_lst (ps := [.bool a, .bool b, .bool c, .bool d]) (qs := [.bool a', .bool b', .bool c', .bool d']) rfl rfl sh_b4 sh_b4]
  cases a <;> cases b <;> cases c <;> cases d <;> cases a' <;> cases b' <;> cases c' <;> cases d' <;> rfl
def w4 (p : Str) : Prop := p ∈ (["busy", "none", "apart", "one"] : List Str)
theorem Ru.ext {a b : Ru} (h1 : a.s = b.s) (h2 : a.g = b.g) (h3 : a.l = b.l) (h4 : a.p = b.p) (h5 : a.h = b.h) : a = b := by
  cases a; cases b
  cases h1; cases h2; cases h3; cases h4; cases h5
  rfl
instance : DecidableEq Ru := fun a b => if h : a.s = b.s ∧ a.g = b.g ∧ a.l = b.l ∧ a.p = b.p ∧ a.h = b.h then .isTrue (Ru.ext h.1 h.2.1 h.2.2.1 h.2.2.2.1 h.2.2.2.2) else .isFalse fun e => h (by subst e; exact ⟨rfl, rfl, rfl, rfl, rfl⟩)
end DL
set_option linter.all false
set_option maxRecDepth 100000
set_option maxHeartbeats 1000000
namespace DL
open PySem PySem.Spec PyProof.Rows L2 DD
/-- a number that a text can have -/
def Sm (i : Int) : Prop := 0 ≤ i ∧ i ≤ 99
theorem Sm.in {i : Int} (h : Sm i) : In i := ⟨h.1, by have := h.2; omega⟩
/-- numbers that are read again -/
structure RuS (r : Ru) : Prop where
  s : Sm r.s
  g : Sm r.g
  l : Sm r.l
  p : w4 r.p
  h : ∀ x, r.h = some x → Sm x.1 ∧ Sm x.2
theorem w4_len {p : Str} (h : w4 p) : p.length ≤ 5 := by
  simp [w4] at h
  rcases h with rfl | rfl | rfl | rfl <;> decide +kernel
theorem RuS.t {r : Ru} (h : RuS r) : RuT r := ⟨h.s.in, h.g.in, h.l.in, w4_len h.p, fun x e => ⟨(h.h x e).1.in, (h.h x e).2.in⟩⟩
@[simp] theorem q_dSl3 {st : Int} {A : En → Res X} {L U : En → Res (Option Int)} {ρ : En} : dSl3 st A L U ρ = ((A ρ).bind fun a ρ1 => (L ρ1).bind fun lo ρ2 => (U ρ2).bind fun hi ρ3 => match deref ρ3 a.settle with
  | some d => lift (opSl3 st d lo hi) ρ3
  | none => .stuck) := rfl
@[simp] theorem q_dEqOS {C : Addr} {m : Nat} {T : En → SR} {A B : En → Res X} {ρ : En} : dEqOS C m T A B ρ = ((A ρ).bind fun a ρ1 => (B ρ1).bind fun b ρ2 => match toVal ρ2 a.settle with
  | some (.ins C' ks es, ρ3) => match toVal ρ3 b.settle with
    | some (.str z, ρ4) => if C' = C then callP xBl (fin (T (env0 m [.val (D.ins C' ks es), .val (D.str z)]))) ρ4 else .stuck
    | _ => .stuck
  | _ => .stuck) := rfl
end DL
set_option linter.all false
set_option maxRecDepth 100000
set_option maxHeartbeats 1000000
namespace DL
open PySem PySem.Spec PyProof.Rows L2 DD
theorem cutD_to {xs : List D} {k : Nat} : cutD xs none (some (k : Int)) = xs.take k := by
  unfold cutD
  rw [HT.sIx_none, HT.sIx_nat, Nat.sub_zero, List.drop_zero]
  by_cases h : k ≤ xs.length
  · rw [Nat.min_eq_left h]
  · rw [Nat.min_eq_right (by omega), List.take_length, List.take_of_length_le (by omega)]
end DL
set_option linter.all false
set_option maxRecDepth 100000
set_option maxHeartbeats 1000000
namespace DL
open PySem PySem.Spec PyProof.Rows L2 DD
theorem nlen3 {i : Int} (h0 : 0 ≤ i) (h : i ≤ 3000) : (Str.ofString (toString i)).length ≤ 5 := by
  have e := int_text_length_le10 (a := i) (k := 4) (by decide) (by omega)
  rw [PySem.ofString_length]
  omega
theorem log3 {i : Int} (h0 : 0 ≤ i) (h : i ≤ 3000) : i.natAbs.log2 < 1920 := by
  by_cases hz : i.natAbs = 0
  · rw [hz]
    decide
  · have := (Nat.log2_lt hz (k := 12)).mpr (by omega)
    omega
end DL
set_option linter.all false
set_option maxRecDepth 100000
set_option maxHeartbeats 1000000
namespace DL
open PySem PySem.Spec PyProof.Rows L2 DD
/-- a block with small numbers -/
def BkS (b : Bk) : Prop := Sm b.1 ∧ Sm b.2.1 ∧ b.1 < b.2.1
theorem cutOf_in {r : Ru} {x y : Int × Int} (h : cutOf r x = some y) (hx : x.1 < x.2) : x.1 ≤ y.1 ∧ y.1 < y.2 ∧ y.2 ≤ x.2 := by
  unfold cutOf at h
  split at h
  · cases h
  · cases eh : r.h with
    | none =>
      rw [eh] at h
      cases h
      omega
    | some z =>
      rw [eh] at h
      dsimp only at h
      split at h
      · rename_i hl
        cases h
        refine ⟨?_, hl, ?_⟩
        · show x.1 ≤ mx x.1 z.1
          unfold mx
          split <;> omega
        · show mn x.2 z.2 ≤ x.2
          unfold mn
          split <;> omega
      · cases h
theorem jn_end {r : Ru} {w : Bool} {B : Int} {J : List (Int × Int)} {x : Int × Int} (hx : x.2 ≤ B) (hJ : ∀ y ∈ J, y.2 ≤ B) : ∀ y ∈ jn r w J x, y.2 ≤ B := by
  intro y hy
  unfold jn at hy
  split at hy
  · split at hy
    · rcases List.mem_append.mp hy with hy | hy
      · exact hJ y (List.dropLast_subset _ hy)
      · obtain rfl := List.mem_singleton.mp hy
        exact hx
    · rcases List.mem_append.mp hy with hy | hy
      · exact hJ y hy
      · obtain rfl := List.mem_singleton.mp hy
        exact hx
  · rcases List.mem_append.mp hy with hy | hy
    · exact hJ y hy
    · obtain rfl := List.mem_singleton.mp hy
      exact hx
theorem jn_fold_end {r : Ru} {w : Bool} {B : Int} : ∀ {S J : List (Int × Int)}, (∀ x ∈ S, x.2 ≤ B) → (∀ y ∈ J, y.2 ≤ B) → ∀ y ∈ S.foldl (jn r w) J, y.2 ≤ B
  | [], J, _, hJ => hJ
  | x :: S, J, hS, hJ => jn_fold_end (S := S) (J := jn r w J x) (fun z hz => hS z (List.mem_cons_of_mem _ hz)) (jn_end (hS x List.mem_cons_self) hJ)
theorem meets_end : ∀ {a n : Int} {ms : List Mt}, Meets a ms → endOf a ms ≤ n → 0 ≤ a → ∀ m ∈ ms, m.2.1 ≤ n
  | _, _, [], _, _, _ => fun m hm => by simp at hm
  | a, n, m :: ms, h, he, h0 => fun x hx => by
    have h1 := h.1
    have h2 := h.2.1
    have h3 := endOf_nonneg (a := m.2.1) (ms := ms) (by omega) h.2.2
    have h4 : endOf m.2.1 ms ≤ n := he
    rcases List.mem_cons.mp hx with rfl | hx
    · omega
    · exact meets_end (a := m.2.1) h.2.2 he (by omega) x hx
theorem jnd_end {r : Ru} (ok : RuOk r) {w : Bool} {ms : List Mt} {n : Int} (hm : Meets 0 ms) (he : endOf 0 ms ≤ n) : ∀ y ∈ jnd r w ms, y.2 ≤ n + 8 := by
  refine jn_fold_end (fun x hx => ?_) (fun y hy => by simp at hy)
  obtain ⟨m, hm1, e⟩ := List.mem_filterMap.mp hx
  unfold spanOf at e
  split at e
  · cases e
    have := (le_up (e := m.2.1) (s := r.s) ok.s.1).2
    have := meets_end hm he (Int.le_refl 0) m hm1
    have := ok.s.2
    show up m.2.1 r.s ≤ n + 8
    omega
  · cases e
theorem shown_sm {c : Cl} {r : Ru} (ok : RuOk r) {ms : List Mt} {n : Int} (hm : Meets 0 ms) (he : endOf 0 ms ≤ n) (hn : n ≤ 90) : ∀ b ∈ showL r ms, BkS b := by
  have one : ∀ w, ∀ b ∈ blk r w ms, BkS b := fun w b hb => by
    have hS := (painted_v (c := c) ok (n := n) hm (by omega) (w := w)).2
    simp only [blk, List.mem_map, List.mem_filterMap] at hb
    obtain ⟨x, ⟨y, hy, e⟩, rfl⟩ := hb
    have h1 := hS.one y hy
    have h2 := jnd_end ok hm he y hy
    have h3 := cutOf_in e h1.2.1
    exact ⟨⟨by show 0 ≤ x.1; omega, by show x.1 ≤ 99; omega⟩, ⟨by show 0 ≤ x.2; omega, by show x.2 ≤ 99; omega⟩, h3.2.1⟩
  intro b hb
  rw [showL, List.mem_append] at hb
  exact hb.elim (one _ b) (one _ b)
theorem pw_nodup {L : List (Int × Int)} {f : Int × Int → Option (Int × Int)} (h1 : ∀ x ∈ L, x.1 < x.2) (hf : ∀ x y, f x = some y → x.1 < x.2 → x.1 ≤ y.1 ∧ y.1 < y.2 ∧ y.2 ≤ x.2) (h : L.Pairwise fun x y => x.2 < y.1) : (L.filterMap f).Pairwise fun x y => x.2 < y.1 := by
  rw [List.pairwise_filterMap]
  refine h.imp_of_mem fun {x y} hx hy hxy a ea b eb => ?_
  have := hf x a ea (h1 x hx)
  have := hf y b eb (h1 y hy)
  omega
theorem show_nodup {c : Cl} {r : Ru} (ok : RuOk r) {ms : List Mt} {n : Int} (hm : Meets 0 ms) (he : endOf 0 ms ≤ n) (hn : n ≤ 90) : (showL r ms).Nodup := by
  have one : ∀ w, (blk r w ms).Nodup := fun w => by
    have hS := (painted_v (c := c) ok (n := n) hm (by omega) (w := w)).2
    have h1 := pw_nodup (f := cutOf r) (fun x hx => (hS.one x hx).2.1) (fun x y e h => cutOf_in e h) hS.two
    have h2 : ∀ x ∈ (jnd r w ms).filterMap (cutOf r), x.1 < x.2 := fun x hx => by
      obtain ⟨y, hy, e⟩ := List.mem_filterMap.mp hx
      exact (cutOf_in e (hS.one y hy).2.1).2.1
    unfold blk
    rw [List.Nodup, List.pairwise_map]
    refine h1.imp_of_mem fun {x y} hx hy hxy e => ?_
    have e1 : x.1 = y.1 := (Prod.mk.inj e).1
    have := h2 x hx
    omega
  unfold showL
  rw [List.nodup_append]
  refine ⟨one false, one true, fun a ha b hb e => ?_⟩
  subst e
  simp only [blk, List.mem_map] at ha hb
  obtain ⟨x, _, rfl⟩ := ha
  obtain ⟨y, _, e⟩ := hb
  have := (Prod.mk.inj (Prod.mk.inj e).2).2
  cases this
/-- a view -/
structure VwOk (L : List Bk) : Prop where
  s : ∀ b ∈ L, BkS b
  o : ∀ (i : Nat) (h : i + 1 < L.length), leK bkP L[i + 1] L[i] = false
  z : L.length ≤ 100
theorem shown_ok {c : Cl} {r : Ru} (ok : RuOk r) {ms : List Mt} {n : Int} (hm : Meets 0 ms) (he : endOf 0 ms ≤ n) (hn : n ≤ 90) (hz : ms.length ≤ 50) : VwOk (srt bkP (showL r ms)) := by
  have p := srt_perm (key := bkP) (showL r ms)
  refine ⟨fun b hb => shown_sm (c := c) ok hm he hn b (p.subset hb), fun i h => ?_, ?_⟩
  · have hp := List.pairwise_iff_getElem.mp (srt_pw (key := bkP) (showL r ms)) i (i + 1) (by omega) h (by omega)
    have hd : (srt bkP (showL r ms)).Nodup := p.nodup_iff.mpr (show_nodup (c := c) ok hm he hn)
    cases e : leK bkP (srt bkP (showL r ms))[i + 1] (srt bkP (showL r ms))[i] with
    | false => rfl
    | true =>
      have := bkO.anti hp e
      have := (List.getElem_inj hd).mp this
      omega
  · rw [p.length_eq, showL, List.length_append]
    have h1 := blk_len (r := r) (w := false) (ms := ms)
    have h2 := blk_len (r := r) (w := true) (ms := ms)
    omega
theorem is_block_v {c : Cl} {b : Bk} (h : BkS b) : Gives 4 (D__is_block c) [bkD b] (.val (.bl true)) := by
  obtain ⟨_, p1⟩ := (is_number_v (c := c) (i := b.1)).elim
  obtain ⟨_, p2⟩ := (is_number_v (c := c) (i := b.2.1)).elim
  have h1 := h.1.1
  have h2 := h.2.1.1
  have h3 := h.2.2
  simp at p1 p2
  obtain ⟨x, y, w⟩ := b
  cases w <;> simp [Gives, D__is_block, bkD, anyK, p1, p2, h1, h2, h3]
theorem allB_t : ∀ n : Nat, allB (List.replicate n (.bl true)) = some (List.replicate n true)
  | 0 => rfl
  | n + 1 => by
    rw [List.replicate_succ, List.replicate_succ]
    simp [allB, allB_t n]
theorem fm_const {α : Type} {d : D} : ∀ L : List α, (L.filterMap fun _ => some d) = List.replicate L.length d
  | [] => rfl
  | a :: L => by
    rw [List.filterMap_cons]
    simp [fm_const L, List.replicate_succ]
theorem atI_bk {L : List Bk} {k : Nat} (h : k < L.length) : atI (L.map bkD) (k : Int) = some (bkD L[k]) := by
  exact atI_nat (j := k) (by simp [h])
theorem is_view_v {c : Cl} {L : List Bk} (h : VwOk L) : Gives 3 (D_is_view c) [.tup (L.map bkD)] (.val (.bl true)) := by
  have lc1 : ∀ ρ : En, ρ = [.val (.tup (L.map bkD)), .none, .none] → lcL [2] (uName 2) tdYes (dCall 1 4 (D__is_block c) (aCons (dVar 2) aNil)) (L.map bkD) ρ [] = .ok ([] ++ L.filterMap fun _ => some (.bl true)) ρ := fun ρ hρ => by
    subst hρ
    refine lc_fm (enc := bkD) (fun _ => some (.bl true)) (fun b hb ds acc ha => ?_) (by have := h.z; simp; omega)
    obtain ⟨_, p⟩ := (is_block_v (c := c) (h.s b hb)).elim
    simp at p
    have ha' : acc.length < 16777216 := by omega
    simp [lcL, tdYes, p, ha']
  have lc2 : ∀ ρ : En, ρ = [.val (.tup (L.map bkD)), .none, .none] → lcL [1] (uName 1) tdYes (dBin opLt (dBin opIx (dVar 0) (dVar 1)) (dBin opIx (dVar 0) (dBin opAdd (dVar 1) (dC (.int 1))))) ((List.range (L.length - 1)).map fun i => D.int (i : Nat)) ρ [] = .ok ([] ++ (List.range (L.length - 1)).filterMap fun _ => some (.bl true)) ρ := fun ρ hρ => by
    subst hρ
    refine lc_fm (enc := fun i : Nat => D.int (i : Nat)) (fun _ => some (.bl true)) (fun i hi ds acc ha => ?_) (by have := h.z; simp; omega)
    have hi2 : i + 1 < L.length := by have := List.mem_range.mp hi; omega
    have a1 := atI_bk (L := L) (k := i) (by omega)
    have a2 := atI_bk (L := L) (k := i + 1) hi2
    have a3 : ((i + 1 : Nat) : Int) = (i : Int) + 1 := rfl
    rw [a3] at a2
    have o := bkO.opLt (a := L[i]) (b := L[i + 1])
    rw [h.o i hi2] at o
    have ha' : acc.length < 16777216 := by omega
    simp [-opLt, lcL, tdYes, a1, a2, o, ha']
  have l1 := lc1 _ rfl
  have l2 := lc2 _ rfl
  rw [fm_const] at l1 l2
  have t1 := allB_t L.length
  have t2 := allB_t (L.length - 1)
  have b1 : ∀ n : Nat, (List.replicate n true).all id = true := fun n => by simp
  obtain ⟨k, hk⟩ : ∃ k : Int, (L.length : Int) = k := ⟨_, rfl⟩
  have hz := h.z
  have k0 : 0 ≤ k := by omega
  have k1 : k ≤ 100 := by omega
  have z2 : k < 9223372036854775808 := by omega
  have z3 : -4611686018427387904 ≤ k - 1 := by omega
  have z4 : k - 1 < 4611686018427387904 := by omega
  have ek : (k - 1).toNat = L.length - 1 := by omega
  simp only [List.nil_append, List.length_range] at l1 l2
  simp [-opLt, Gives, D_is_view, anyK, lcAll, hk, k0, z2, z3, z4, ek, l1, l2, t1, t2]
end DL
set_option linter.all false
set_option maxRecDepth 100000
set_option maxHeartbeats 1000000
namespace DL
open PySem PySem.Spec PyProof.Rows L2 DD
abbrev Kn := Int × Bool
structure Fr where
  n : Int
  s : Int
  m : Option Int
  p : Bool
  ks : List Kn
def knD (k : Kn) : D := .tup [.int k.1, .bl k.2]
def moD : Option Int → D
  | none => .non
  | some i => .int i
def frO (c : Cl) (f : Fr) : O := .ins c.Frame ["length", "shortest", "most", "private", "known"] [.int f.n, .int f.s, moD f.m, .bl f.p, .tup (f.ks.map knD)]
def fvD (c : Cl) (f : Fr) : D := .ins c.Frame ["length", "shortest", "most", "private", "known"] [.int f.n, .int f.s, moD f.m, .bl f.p, .tup (f.ks.map knD)]
structure FrIn (f : Fr) : Prop where
  n : 1 ≤ f.n
  s : 1 ≤ f.s
  m : ∀ i, f.m = some i → 0 ≤ i
  k : ∀ x ∈ f.ks, 0 ≤ x.1 ∧ x.1 < f.n
  z : f.ks.length ≤ 50
theorem is_known_v {c : Cl} {k : Kn} {n : Int} (h : 0 ≤ k.1 ∧ k.1 < n) : Gives 4 (D__is_known c) [knD k, .int n] (.val (.bl true)) := by
  obtain ⟨_, p⟩ := (is_number_v (c := c) (i := k.1)).elim
  have h1 := h.1
  have h2 := h.2
  simp at p
  simp [Gives, D__is_known, knD, anyK, p, h1, h2]
theorem are_known_v {c : Cl} {n : Int} {ks : List Kn} (h : ∀ x ∈ ks, 0 ≤ x.1 ∧ x.1 < n) (hz : ks.length ≤ 60) {d : D} (hd : d = .lst (ks.map knD) ∨ d = .tup (ks.map knD)) : Gives 3 (D__are_known c) [d, .int n] (.val (.bl true)) := by
  have lc : lcL [2] (uName 2) tdYes (dCall 2 4 (D__is_known c) (aCons (dVar 2) (aCons (dVar 1) aNil))) (ks.map knD) [.val d, .val (.int n), .none] [] = .ok ([] ++ ks.filterMap fun _ => some (.bl true)) [.val d, .val (.int n), .none] := by
    refine lc_fm (enc := knD) (fun _ => some (.bl true)) (fun k hk ds acc ha => ?_) (by simp; omega)
    obtain ⟨_, p⟩ := (is_known_v (c := c) (h k hk)).elim
    simp at p
    have ha' : acc.length < 16777216 := by omega
    simp [lcL, tdYes, p, ha']
  rw [fm_const] at lc
  have t1 := allB_t ks.length
  rcases hd with rfl | rfl
  · obtain ⟨_, p⟩ := (is_sequence_l (c := c) (ds := ks.map knD)).elim
    simp at p lc
    simp [Gives, D__are_known, p, lcAll, lc, t1]
  · obtain ⟨_, p⟩ := (is_sequence_t (c := c) (ds := ks.map knD)).elim
    simp at p lc
    simp [Gives, D__are_known, p, lcAll, lc, t1]
theorem wrong_f_v {c : Cl} {f : Fr} (ok : FrIn f) {d : D} (hd : d = .lst (f.ks.map knD) ∨ d = .tup (f.ks.map knD)) : Gives 5 (D_wrong_argument_frames c) [.int f.n, .int f.s, moD f.m, .bl f.p, d] (.val .non) := by
  obtain ⟨_, p1⟩ := (is_positive_v (c := c) (i := f.n)).elim
  obtain ⟨_, p2⟩ := (is_positive_v (c := c) (i := f.s)).elim
  obtain ⟨_, p4⟩ := (are_known_v (c := c) ok.k (by have := ok.z; omega) hd).elim
  have h1 := ok.n
  have h2 := ok.s
  cases e : f.m with
  | none =>
    simp at p1 p2 p4
    simp [Gives, D_wrong_argument_frames, moD, anyK, p1, p2, p4, h1, h2]
  | some i =>
    obtain ⟨_, p3⟩ := (is_number_v (c := c) (i := i)).elim
    have h3 := ok.m i e
    simp at p1 p2 p3 p4
    simp [Gives, D_wrong_argument_frames, moD, anyK, p1, p2, p3, p4, h1, h2, h3]
theorem frame_init {c : Cl} {f : Fr} (ok : FrIn f) {d : D} (hd : d = .lst (f.ks.map knD) ∨ d = .tup (f.ks.map knD)) : GivesB 7 (fun ρ => D_Frame___init__ c (fillD 6 [] ρ)) (.ins c.Frame [] []) [.int f.n, .int f.s, moD f.m, .bl f.p, d] (.val .non) (frO c f) := by
  obtain ⟨_, p⟩ := (wrong_f_v (c := c) ok hd).elim
  have hz := ok.z
  have z : f.ks.length ≤ 16777216 := by omega
  simp at p
  rcases hd with rfl | rfl
  · simp [GivesB, D_Frame___init__, fillD, p, frO, z]
  · simp [GivesB, D_Frame___init__, fillD, p, frO, z]
end DL
set_option linter.all false
set_option maxRecDepth 100000
set_option maxHeartbeats 1000000
namespace DL
open PySem PySem.Spec PyProof.Rows L2 DD
abbrev SPC : Str := " "
abbrev Jn (l : List Str) : Str := Str.join SPC l
def Rj (l l' : List Str) : Prop := (l = [] ↔ l' = []) ∧ Jn l = Jn l'
theorem Rj.refl (l : List Str) : Rj l l := ⟨Iff.rfl, rfl⟩
theorem Rj.cons {l l' : List Str} (x : Str) (r : Rj l l') : Rj (x :: l) (x :: l') := by
  refine ⟨by simp, ?_⟩
  obtain ⟨r1, r2⟩ := r
  cases l with
  | nil =>
    obtain rfl := r1.mp rfl
    rfl
  | cons y l =>
    cases l' with
    | nil => exact absurd (r1.mpr rfl) (by simp)
    | cons y' l' =>
      show x ++ SPC ++ Jn (y :: l) = x ++ SPC ++ Jn (y' :: l')
      rw [r2]
end DL
set_option linter.all false
set_option maxRecDepth 100000
set_option maxHeartbeats 1000000
namespace DL
open PySem PySem.Spec PyProof.Rows L2 DD
@[simp] theorem q_dRng3 {T : En → Res (List X)} {ρ : En} : dRng3 T ρ = ((T ρ).bind fun xs ρ1 => lift ((derefs ρ1 xs).bind rng3D) ρ1) := rfl
end DL
set_option linter.all false
set_option maxRecDepth 100000
set_option maxHeartbeats 2000000
namespace DL
open PySem PySem.Spec PyProof.Rows L2 DD
end DL
set_option linter.all false
set_option maxRecDepth 100000
set_option maxHeartbeats 2000000
namespace DL
open PySem PySem.Spec PyProof.Rows L2 DD
end DL
set_option linter.all false
set_option maxRecDepth 100000
set_option maxHeartbeats 2000000
namespace DL
open PySem PySem.Spec PyProof.Rows L2 DD
end DL
set_option linter.all false
set_option maxRecDepth 100000
set_option maxHeartbeats 1000000
namespace DL
open PySem PySem.Spec PyProof.Rows L2 DD
end DL
set_option linter.all false
set_option maxRecDepth 100000
set_option maxHeartbeats 1000000
namespace DL
open PySem PySem.Spec PyProof.Rows L2 DD
end DL
set_option linter.all false
set_option maxRecDepth 100000
set_option maxHeartbeats 1000000
namespace DL
open PySem PySem.Spec PyProof.Rows L2 DD
end DL
set_option linter.all false
set_option maxRecDepth 100000
set_option maxHeartbeats 1000000
namespace DL
open PySem PySem.Spec PyProof.Rows L2 DD
end DL
set_option linter.all false
set_option maxRecDepth 100000
set_option maxHeartbeats 1000000
namespace DL
open PySem PySem.Spec PyProof.Rows L2 DD
theorem dn_mono {a b s : Int} (h : 1 ≤ s) (hab : a ≤ b) : dn a s ≤ dn b s := Int.mul_le_mul_of_nonneg_right (Int.ediv_le_ediv (by omega) (by omega)) (by omega)
end DL
set_option linter.all false
set_option maxRecDepth 100000
set_option maxHeartbeats 1000000
namespace DL
open PySem PySem.Spec PyProof.Rows L2 DD
theorem meets_le : ∀ {ms : List Mt} {a : Int}, 0 ≤ a → Meets a ms → ∀ m ∈ ms, 0 ≤ m.1 ∧ m.1 < m.2.1 ∧ m.2.1 ≤ endOf a ms
  | m :: ms, a, ha, h, x, hx => by
    have h1 := h.1
    have h2 := h.2.1
    have h3 : endOf a (m :: ms) = endOf m.2.1 ms := rfl
    have h4 := endOf_nonneg (a := m.2.1) (ms := ms) (by omega) h.2.2
    rw [h3]
    rcases List.mem_cons.mp hx with rfl | hx
    · exact ⟨by omega, by omega, h4⟩
    · exact meets_le (by omega) h.2.2 x hx
end DL
set_option linter.all false
set_option maxRecDepth 100000
set_option maxHeartbeats 1000000
namespace DL
open PySem PySem.Spec PyProof.Rows L2 DD
@[simp] theorem q_dIxO {C : Addr} {m : Nat} {T : En → SR} {A B : En → Res X} {ρ : En} : dIxO C m T A B ρ = ((A ρ).bind fun a ρ1 => (B ρ1).bind fun b ρ2 => match toVal ρ2 a.settle with
  | some (.ins C' ks es, ρ3) => match toVal ρ3 b.settle with
    | some (z, ρ4) => if C' = C then callV (fin (T (env0 m [.val (D.ins C' ks es), .val z]))) ρ4 else .stuck
    | none => .stuck
  | _ => .stuck) := rfl
theorem flat_taken : ∀ {a n : Int} {ms : List Mt}, 0 ≤ a → Meets a ms → endOf a ms ≤ n → ((ms.flatMap fun m => tk m.1 m.2.1).length : Int) ≤ n - a
  | a, n, [], h0, _, he => by
    have : a ≤ n := he
    simp
    omega
  | a, n, m :: ms, h0, h, he => by
    have h1 := h.1
    have h2 := h.2.1
    have h3 := flat_taken (n := n) (by omega) h.2.2 he
    have h4 := tk_len (b := m.1) (e := m.2.1) (by omega)
    rw [List.flatMap_cons, List.length_append]
    omega
end DL
set_option linter.all false
set_option maxRecDepth 100000
set_option maxHeartbeats 1000000
namespace DL
open PySem PySem.Spec PyProof.Rows L2 DD
/-- the state of the draws -/
def box3 (b : Int × Int × Int) : O := .lst [.int b.1, .int b.2.1, .int b.2.2]
theorem take_gives {c : Cl} (b : Int × Int × Int) {m : Int} (hm : 0 < m) (hm2 : m < 1073741824) : ∃ r b', GivesB 4 (D__law_take c) (box3 b) [.int m] (.val (.int r)) (box3 b') ∧ 0 ≤ r ∧ r < m := by
  obtain ⟨x, y, z⟩ := b
  by_cases hx : 0 < x
  · refine ⟨x % m, (x / m, y, z), ?_, Int.emod_nonneg _ (by omega), Int.emod_lt_of_pos _ hm⟩
    simp [GivesB, D__law_take, atI, ixN, hx, CDiv, hm, hm2, box3]
  · refine ⟨((y + 100003 * (z + 1)) * 40692 % 2147483647 * 2147483647 + (((y + 100003 * (z + 1)) * 40692 % 2147483647 * 48271 + 8111) % 2147483629 + 1)) / 8191 % m, (x, (((y + 100003 * (z + 1)) * 40692 % 2147483647 * 48271 + 8111) % 2147483629 + 1), z + 1), ?_, Int.emod_nonneg _ (by omega : m ≠ 0), Int.emod_lt_of_pos _ hm⟩
    simp [GivesB, D__law_take, atI, ixN, hx, CDiv, CMul, hm, hm2, box3]
theorem pick_gives {c : Cl} (b : Int × Int × Int) {ds : List D} (h0 : ds ≠ []) (h1 : ds.length ≤ 1000) : ∃ d b', GivesB 2 (D__law_pick c) (box3 b) [.lst ds] (.val d) (box3 b') ∧ d ∈ ds := by
  have hp : 0 < ds.length := List.length_pos_iff.mpr h0
  obtain ⟨r, b', h, hr, hr2⟩ := take_gives (c := c) b (m := (ds.length : Int)) (by omega) (by omega)
  obtain ⟨d, hd, hm⟩ := atI_get (xs := ds) hr hr2
  obtain ⟨ρ', e1, e2⟩ := h.elim
  simp at e1
  exact ⟨d, b', by simp [GivesB, D__law_pick, e1, e2, hd], hm⟩
theorem box_gives {c : Cl} (ns : List Int) (k : Nat) : ∃ b, Gives 4 (D__law_box c) [.scr (ns.map D.int), .int k] (.new (box3 b)) := by
  by_cases h1 : k < ns.length
  · have h1' : (k : Int) < ns.length := by omega
    have e := atI_ints h1
    by_cases h2 : (1000000000000000000 : Int) ≤ (if ns[k] < 0 then -ns[k] else ns[k])
    · simp [Gives, D__law_box, CMul, CPow, h1', e, box3, h2]
    · simp [Gives, D__law_box, CMul, CPow, h1', e, box3, h2]
  · have h1' : ¬ (k : Int) < ns.length := by omega
    by_cases h0 : 0 < ns.length
    · have hm : k % ns.length < ns.length := Nat.mod_lt _ h0
      have e := atI_ints (ns := ns) hm
      rw [Int.natCast_emod] at e
      by_cases h2 : (1000000000000000000 : Int) ≤ 8087 * (k : Int) + 61 + (if ns[k % ns.length] < 0 then -ns[k % ns.length] else ns[k % ns.length]) % 2147483629 * 53171
      · simp [Gives, D__law_box, CMul, CPow, h1, h0, e, box3, h2]
      · simp [Gives, D__law_box, CMul, CPow, h1, h0, e, box3, h2]
    · by_cases h2 : (1000000000000000000 : Int) ≤ 8087 * (k : Int) + 61
      · simp [Gives, D__law_box, CMul, CPow, h1, h0, box3, h2]
      · simp [Gives, D__law_box, CMul, CPow, h1, h0, box3, h2]
theorem rule2_gives {c : Cl} (b : Int × Int × Int) {top : Int} (h1 : 1 ≤ top) (h2 : top ≤ 24) : ∃ (r : Ru) (b' : Int × Int × Int), GivesB 7 (D__law_rule_2 c) (box3 b) [.int top] (.val (ruD r)) (box3 b') ∧ RuOk r := by
  obtain ⟨d, b1, g1, hd⟩ := pick_gives (c := c) b (ds := [1, 1, 2, 2, 3, 4, 8].map D.int) (by simp) (by simp)
  obtain ⟨s, hs, rfl⟩ := mem_int hd
  obtain ⟨d, b2, g2, hd⟩ := pick_gives (c := c) b1 (ds := [0, 0, 1, 2, 3, 5, 16].map D.int) (by simp) (by simp)
  obtain ⟨g, hg, rfl⟩ := mem_int hd
  obtain ⟨w, b3, g3, w0, w1⟩ := take_gives (c := c) b2 (m := 4) (by omega) (by omega)
  obtain ⟨_, p1, q1⟩ := g1.elim
  obtain ⟨_, p2, q2⟩ := g2.elim
  obtain ⟨_, p3, q3⟩ := g3.elim
  simp at p1 p2 p3
  have hs' : 1 ≤ s ∧ s ≤ 8 := by simp at hs; omega
  have hg' : 0 ≤ g ∧ g ≤ 16 := by simp at hg; omega
  by_cases hw : w = 0
  · subst hw
    obtain ⟨x, b4, g4, x0, x1⟩ := take_gives (c := c) b3 (m := top) (by omega) (by omega)
    obtain ⟨y, b5, g5, y0, y1⟩ := take_gives (c := c) b4 (m := top) (by omega) (by omega)
    obtain ⟨d, b6, g6, hd⟩ := pick_gives (c := c) b5 (ds := [0, 0, 0, 2, 3, 4, 16].map D.int) (by simp) (by simp)
    obtain ⟨l, hl, rfl⟩ := mem_int hd
    obtain ⟨d, b7, g7, hd⟩ := pick_gives (c := c) b6 (ds := (["busy", "none", "apart", "one"] : List Str).map D.str) (by simp) (by simp)
    obtain ⟨p, hp, rfl⟩ := mem_str hd
    obtain ⟨_, p4, q4⟩ := g4.elim
    obtain ⟨_, p5, q5⟩ := g5.elim
    obtain ⟨_, p6, q6⟩ := g6.elim
    obtain ⟨_, p7, q7⟩ := g7.elim
    simp at p4 p5 p6 p7
    have hl' : 0 ≤ l ∧ l ≤ 16 := by simp at hl; omega
    refine ⟨⟨s, g, l, p, some (x, x + 1 + y)⟩, b7, ?_, ⟨hs', hg', hl', hp, fun z e => by cases e; dsimp only; omega⟩⟩
    simp [GivesB, D__law_rule_2, p1, q1, p2, q2, p3, q3, p4, q4, p5, q5, p6, q6, p7, q7, ruD, hoD]
  · obtain ⟨d, b6, g6, hd⟩ := pick_gives (c := c) b3 (ds := [0, 0, 0, 2, 3, 4, 16].map D.int) (by simp) (by simp)
    obtain ⟨l, hl, rfl⟩ := mem_int hd
    obtain ⟨d, b7, g7, hd⟩ := pick_gives (c := c) b6 (ds := (["busy", "none", "apart", "one"] : List Str).map D.str) (by simp) (by simp)
    obtain ⟨p, hp, rfl⟩ := mem_str hd
    obtain ⟨_, p6, q6⟩ := g6.elim
    obtain ⟨_, p7, q7⟩ := g7.elim
    simp at p6 p7
    have hl' : 0 ≤ l ∧ l ≤ 16 := by simp at hl; omega
    refine ⟨⟨s, g, l, p, none⟩, b7, ?_, ⟨hs', hg', hl', hp, fun z e => by cases e⟩⟩
    simp [GivesB, D__law_rule_2, p1, q1, p2, q2, p3, q3, hw, p6, q6, p7, q7, ruD, hoD]
end DL
set_option linter.all false
set_option maxRecDepth 100000
set_option maxHeartbeats 1000000
namespace DL
open PySem PySem.Spec PyProof.Rows L2 DD
/-- a ground: what a frame is made from -/
def grD (f : Fr) : D := .tup [.int f.n, .int f.s, moD f.m, .bl f.p, .tup (f.ks.map knD)]
theorem gfact_loop {c : Cl} {b : Int × Int × Int} {n : Int} (h1 : 1 ≤ n) (h2 : n ≤ 1000) {v1 v2 v5 v7 : Slot} {N : Nat} (hN : N ≤ 40) : ∃ (b' : Int × Int × Int) (ks : List Kn) (t4 : Slot), forL (uName 4) (D__law_ground_b1 c) ((List.range N).map fun i => D.int (i : Nat)) [.bor (box3 b), v1, v2, .own (.lst []), .none, v5, .val (.int n), v7, .none] = .nx [.bor (box3 b'), v1, v2, .own (.lst (ks.map knD)), t4, v5, .val (.int n), v7, .none] ∧ t4.free = true ∧ ks.length ≤ N ∧ ∀ x ∈ ks, 0 ≤ x.1 ∧ x.1 < n := by
  obtain ⟨ρ', e, b', ks, t3, rfl, g3, hl, hk⟩ := forR_inv (U := uName 4) (B := D__law_ground_b1 c) (n := N) (fun i ρ => ∃ (b : Int × Int × Int) (ks : List Kn) (s4 : Slot), ρ = [.bor (box3 b), v1, v2, .own (.lst (ks.map knD)), s4, v5, .val (.int n), v7, .none] ∧ s4.free = true ∧ ks.length ≤ i ∧ ∀ x ∈ ks, 0 ≤ x.1 ∧ x.1 < n) (fun i hi ρ hw => by
    obtain ⟨b, ks, s4, rfl, f4, hl, hk⟩ := hw
    obtain ⟨x, b1, g1, x0, x1⟩ := take_gives (c := c) b (m := n) (by omega) (by omega)
    obtain ⟨y, b2, g2, y0, y1⟩ := take_gives (c := c) b1 (m := 2) (by omega) (by omega)
    obtain ⟨_, p1, q1⟩ := g1.elim
    obtain ⟨_, p2, q2⟩ := g2.elim
    simp at p1 p2
    have z : ks.length < 16777216 := by omega
    refine ⟨_, .inl (by simp [D__law_ground_b1, f4, p1, q1, p2, q2, z] <;> rfl), b2, ks ++ [(x, decide (y = 0))], .val (.int i), ?_, rfl, by simp; omega, fun k hk' => ?_⟩
    · simp [knD]
    · rcases List.mem_append.mp hk' with h | h
      · exact hk k h
      · obtain rfl := List.mem_singleton.mp h
        exact ⟨x0, x1⟩) (ρ := [.bor (box3 b), v1, v2, .own (.lst []), .none, v5, .val (.int n), v7, .none]) ⟨b, [], .none, rfl, rfl, Nat.le_refl 0, fun x h => by simp at h⟩
  exact ⟨b', ks, t3, e, g3, hl, hk⟩
/-- what a ground keeps -/
structure GrOk (lo hi : Int) (f : Fr) : Prop where
  i : FrIn f
  n : f.n ≤ hi
  n0 : lo ≤ f.n ∨ 8 ≤ f.n
  s : f.s ≤ 6
  m : ∀ i, f.m = some i → i ≤ 3
  z : f.ks.length ≤ 2
theorem ground_gives {c : Cl} (b : Int × Int × Int) {lo hi : Int} (h1 : 1 ≤ lo) (h2 : lo ≤ hi) (h3 : hi ≤ 200) : ∃ (f : Fr) (b' : Int × Int × Int), GivesB 9 (D__law_ground c) (box3 b) [.int lo, .int hi] (.val (grD f)) (box3 b') ∧ GrOk lo hi f := by
  obtain ⟨x, b1, g1, x0, x1⟩ := take_gives (c := c) b (m := hi - lo + 1) (by omega) (by omega)
  obtain ⟨d, b2, g2, hd⟩ := pick_gives (c := c) b1 (ds := [1, 1, 1, 2, 2, 3, 6].map D.int) (by simp) (by simp)
  obtain ⟨s, hs, rfl⟩ := mem_int hd
  have hs2 : 1 ≤ s ∧ s ≤ 6 := by simp at hs; omega
  obtain ⟨d, b3, g3, hd⟩ := pick_gives (c := c) b2 (ds := [0, 0, 0, 1, 2].map D.int) (by simp) (by simp)
  obtain ⟨N, hN, rfl⟩ := mem_int hd
  have hN2 : 0 ≤ N ∧ N ≤ 2 := by simp at hN; omega
  obtain ⟨b4, ks, t4, e4, f4, hl, hk⟩ := gfact_loop (c := c) (b := b3) (n := lo + x) (by omega) (by omega) (v1 := .val (.int lo)) (v2 := .val (.int hi)) (v5 := .none) (v7 := .val (.int s)) (N := N.toNat) (by omega)
  obtain ⟨d, b5, g5, hm⟩ := pick_gives (c := c) b4 (ds := [.non, .non, .non, .non, .int 0, .int 1, .int 2, .int 3]) (by simp) (by simp)
  obtain ⟨m, hm2, rfl⟩ : ∃ m : Option Int, (∀ i, m = some i → 0 ≤ i ∧ i ≤ 3) ∧ d = moD m := by
    simp at hm
    rcases hm with rfl | rfl | rfl | rfl | rfl
    · exact ⟨none, fun i e => (by cases e), rfl⟩
    · exact ⟨some 0, fun i e => (by cases e; omega), rfl⟩
    · exact ⟨some 1, fun i e => (by cases e; omega), rfl⟩
    · exact ⟨some 2, fun i e => (by cases e; omega), rfl⟩
    · exact ⟨some 3, fun i e => (by cases e; omega), rfl⟩
  obtain ⟨w, b6, g6, w0, w1⟩ := take_gives (c := c) b5 (m := 3) (by omega) (by omega)
  obtain ⟨_, p1, q1⟩ := g1.elim
  obtain ⟨_, p2, q2⟩ := g2.elim
  obtain ⟨_, p3, q3⟩ := g3.elim
  obtain ⟨_, p5, q5⟩ := g5.elim
  obtain ⟨_, p6, q6⟩ := g6.elim
  have r1 : -4611686018427387904 ≤ N := by omega
  have r2 : N < 4611686018427387904 := by omega
  have z : ks.length ≤ 16777216 := by omega
  simp at p1 p2 p3 p5 p6
  by_cases hw : 0 < w
  · refine ⟨⟨lo + x, s, m, false, ks⟩, b6, ?_, ⟨by show 1 ≤ lo + x; omega, hs2.1, fun i e => (hm2 i e).1, hk, by show ks.length ≤ 50; omega⟩, by show lo + x ≤ hi; omega, .inl (by show lo ≤ lo + x; omega), hs2.2, fun i e => (hm2 i e).2, by show ks.length ≤ 2; omega⟩
    simp [GivesB, D__law_ground, p1, q1, p2, q2, p3, q3, r1, r2, e4, f4, p5, q5, p6, q6, hw, grD, z]
  · have hw' : w = 0 := by omega
    subst hw'
    obtain ⟨n', hn'⟩ : ∃ n', n' = mn 8 (lo + x) := ⟨_, rfl⟩
    have hn2 : n' ≤ 8 ∧ n' ≤ lo + x ∧ 1 ≤ n' ∧ (n' = lo + x ∨ n' = 8) := by
      subst hn'
      unfold mn
      split <;> omega
    have hmn := hn'
    unfold mn at hmn
    have L := lc_fm (vs := [8]) (U := uName 8) (T := dTest (dBin opLt (dBin opIx (dVar 8) (dC (.int 0))) (dVar 6))) (A := dVar 8) (enc := knD) (fun k : Kn => if k.1 < n' then some (knD k) else none) (ρ := [.bor (box3 b6), .val (.int lo), .val (.int hi), .lck (.lst (ks.map knD)), t4, .val (moD m), .val (.int n'), .val (.int s), .none]) (L := ks) (acc := []) (fun k hk ds acc ha => by
      have ha' : acc.length < 16777216 := by omega
      by_cases hkk : k.1 < n'
      · simp [lcL, knD, hkk, ha']
      · simp [lcL, knD, hkk]) (by simp; omega)
    have hfl : ks.filterMap (fun k : Kn => if k.1 < n' then some (knD k) else none) = (ks.filter fun k => decide (k.1 < n')).map knD := by
      clear L e4 hl hk z
      induction ks with
      | nil => rfl
      | cons k ks ih => by_cases hkk : k.1 < n' <;> simp [hkk, ih]
    rw [hfl] at L
    have hlen : (ks.filter fun k => decide (k.1 < n')).length ≤ ks.length := List.length_filter_le _ _
    have z2 : (ks.filter fun k => decide (k.1 < n')).length ≤ 16777216 := by omega
    refine ⟨⟨n', s, m, true, ks.filter fun k => decide (k.1 < n')⟩, b6, ?_, ⟨hn2.2.2.1, hs2.1, fun i e => (hm2 i e).1, fun k hkf => by
      have := List.mem_filter.mp hkf
      exact ⟨(hk k this.1).1, by simpa using this.2⟩, by show (ks.filter _).length ≤ 50; omega⟩, by show n' ≤ hi; omega, by show lo ≤ n' ∨ 8 ≤ n'; omega, hs2.2, fun i e => (hm2 i e).2, by show (ks.filter _).length ≤ 2; omega⟩
    simp at L
    simp [GivesB, D__law_ground, p1, q1, p2, q2, p3, q3, r1, r2, e4, f4, p5, q5, p6, q6, grD, z2, ← hmn, lcAll, L]
end DL
set_option linter.all false
set_option maxRecDepth 100000
set_option maxHeartbeats 1000000
namespace DL
open PySem PySem.Spec PyProof.Rows L2 DD
/-- what meetings keep of a ground -/
def Fit (f : Fr) (m : Mt) : Prop := f.s ≤ m.2.1 - m.1 ∧ (m.2.2 = true → f.p = true)
theorem meets_len : ∀ {ms : List Mt} {a : Int}, Meets a ms → (ms.length : Int) ≤ endOf a ms - a
  | [], a, _ => by simp [endOf]
  | m :: ms, a, h => by
    have h1 := meets_len h.2.2
    have h2 := h.1
    have h3 := h.2.1
    show ((ms.length + 1 : Nat) : Int) ≤ endOf m.2.1 ms - a
    omega
theorem meets_loop {c : Cl} {f : Fr} (hs : 1 ≤ f.s) (hn : f.n ≤ 1000) : ∀ (n : Nat) {a : Int} {ms : List Mt} {b : Int × Int × Int} {s6 : Slot}, s6.free = true → Meets 0 ms → endOf 0 ms ≤ a → endOf 0 ms ≤ f.n → 0 ≤ a → (∀ m ∈ ms, Fit f m) → f.n - a < n → ∀ k, n < k → ∃ (ms' : List Mt) (b' : Int × Int × Int) (s5 s6' : Slot), whl (dTest (dBin opLe (dBin opAdd (dVar 5) (dVar 3)) (dVar 2))) (D__law_meetings_b1 c) k [.bor (box3 b), .val (grD f), .val (.int f.n), .val (.int f.s), .own (.lst (ms.map mtD)), .val (.int a), s6] = .nx [.bor (box3 b'), .val (grD f), .val (.int f.n), .val (.int f.s), .own (.lst (ms'.map mtD)), s5, s6'] ∧ Meets 0 ms' ∧ endOf 0 ms' ≤ f.n ∧ ∀ m ∈ ms', Fit f m
  | 0, a, ms, b, s6, f6, hm, he, hf, h0, hx, hl, k + 1, hk => by
    have h1 : ¬ a + f.s ≤ f.n := by omega
    exact ⟨ms, b, .val (.int a), s6, by simp [whl, h1], hm, hf, hx⟩
  | n + 1, a, ms, b, s6, f6, hm, he, hf, h0, hx, hl, k + 1, hk => by
    by_cases h1 : a + f.s ≤ f.n
    · obtain ⟨d, b1, g1, hd⟩ := pick_gives (c := c) b (ds := [0, 0, 1, 2, 3].map D.int) (by simp) (by simp)
      obtain ⟨x, hx1, rfl⟩ := mem_int hd
      obtain ⟨d, b2, g2, hd⟩ := pick_gives (c := c) b1 (ds := [0, 0, 1, 2, 4].map D.int) (by simp) (by simp)
      obtain ⟨y, hy1, rfl⟩ := mem_int hd
      obtain ⟨z, b3, g3, z0, z1⟩ := take_gives (c := c) b2 (m := 3) (by omega) (by omega)
      have hx0 : 0 ≤ x := by simp at hx1; omega
      have hy0 : 0 ≤ y := by simp at hy1; omega
      obtain ⟨_, p1, q1⟩ := g1.elim
      obtain ⟨_, p2, q2⟩ := g2.elim
      obtain ⟨_, p3, q3⟩ := g3.elim
      simp at p1 p2 p3
      have hln := meets_len hm
      have hz : ms.length < 16777216 := by omega
      by_cases h2 : a + x + f.s + y ≤ f.n
      · cases hp : f.p with
        | false =>
          have sn := hm.snoc (m := (a + x, a + x + f.s + y, false)) (by show endOf 0 ms ≤ a + x; omega) (by show a + x < a + x + f.s + y; omega)
          obtain ⟨ms', b', s5, s6', e, r1, r2, r3⟩ := meets_loop (c := c) hs hn n (a := a + x + f.s + y) (ms := ms ++ [(a + x, a + x + f.s + y, false)]) (b := b2) (s6 := .val (.int (a + x + f.s + y))) rfl sn.1 (by rw [sn.2]; exact Int.le_refl _) (by rw [sn.2]; exact h2) (by omega) (fun m hm' => by
            rcases List.mem_append.mp hm' with h | h
            · exact hx m h
            · obtain rfl := List.mem_singleton.mp h
              exact ⟨by show f.s ≤ a + x + f.s + y - (a + x); omega, fun h => by cases h⟩) (by omega) k (by omega)
          refine ⟨ms', b', s5, s6', ?_, r1, r2, r3⟩
          rw [← e]
          simp [whl, D__law_meetings_b1, h1, p1, q1, p2, q2, f6, h2, grD, hp, hz, mtD]
        | true =>
          have sn := hm.snoc (m := (a + x, a + x + f.s + y, decide (z = 0))) (by show endOf 0 ms ≤ a + x; omega) (by show a + x < a + x + f.s + y; omega)
          obtain ⟨ms', b', s5, s6', e, r1, r2, r3⟩ := meets_loop (c := c) hs hn n (a := a + x + f.s + y) (ms := ms ++ [(a + x, a + x + f.s + y, decide (z = 0))]) (b := b3) (s6 := .val (.int (a + x + f.s + y))) rfl sn.1 (by rw [sn.2]; exact Int.le_refl _) (by rw [sn.2]; exact h2) (by omega) (fun m hm' => by
            rcases List.mem_append.mp hm' with h | h
            · exact hx m h
            · obtain rfl := List.mem_singleton.mp h
              exact ⟨by show f.s ≤ a + x + f.s + y - (a + x); omega, fun _ => hp⟩) (by omega) k (by omega)
          refine ⟨ms', b', s5, s6', ?_, r1, r2, r3⟩
          rw [← e]
          simp [whl, D__law_meetings_b1, h1, p1, q1, p2, q2, p3, q3, f6, h2, grD, hp, hz, mtD]
      · obtain ⟨ms', b', s5, s6', e, r1, r2, r3⟩ := meets_loop (c := c) hs hn n (a := a + x + f.s + y) (ms := ms) (b := b2) (s6 := .val (.int (a + x + f.s + y))) rfl hm (by omega) hf (by omega) hx (by omega) k (by omega)
        refine ⟨ms', b', s5, s6', ?_, r1, r2, r3⟩
        rw [← e]
        simp [whl, D__law_meetings_b1, h1, p1, q1, p2, q2, f6, h2, grD]
    · exact ⟨ms, b, .val (.int a), s6, by simp [whl, h1], hm, hf, hx⟩
/-- a row of a ground -/
structure Row (f : Fr) (ms : List Mt) : Prop where
  m : Meets 0 ms
  e : endOf 0 ms ≤ f.n
  x : ∀ m ∈ ms, Fit f m
theorem meetings_gives {c : Cl} {f : Fr} (b : Int × Int × Int) (hs : 1 ≤ f.s) (h1 : 1 ≤ f.n) (hn : f.n ≤ 1000) : ∃ (ms : List Mt) (b' : Int × Int × Int), GivesB 7 (D__law_meetings c) (box3 b) [grD f] (.new (.lst (ms.map mtD))) (box3 b') ∧ Row f ms := by
  obtain ⟨ms', b', s5, s6', e, r1, r2, r3⟩ := meets_loop (c := c) hs hn (f.n.toNat + 1) (a := 0) (ms := []) (b := b) (s6 := .none) rfl trivial (Int.le_refl _) (by show 0 ≤ f.n; omega) (Int.le_refl _) (fun m h => by simp at h) (by omega) 100000 (by omega)
  refine ⟨ms', b', ?_, r1, r2, r3⟩
  simp [grD] at e
  simp [GivesB, D__law_meetings, grD, sWhile, e]
theorem Meets.take : ∀ {ms : List Mt} {a : Int} (k : Nat), Meets a ms → Meets a (ms.take k)
  | [], a, k, h => by simp [Meets]
  | m :: ms, a, 0, h => trivial
  | m :: ms, a, k + 1, h => ⟨h.1, h.2.1, Meets.take k h.2.2⟩
theorem Row.take {f : Fr} {ms : List Mt} (h : Row f ms) (k : Nat) : Row f (ms.take k) :=
  ⟨h.m.take k, by have := endOf_le (i := k) h.m; have := h.e; omega, fun m hm => h.x m (List.mem_of_mem_take hm)⟩
theorem rgD_tk {a b : Int} : rgD a b = (tk a b).map D.int := by
  unfold rgD tk
  rw [List.map_map]
  rfl
theorem RgOk_tk {a b : Int} (h0 : 0 ≤ a) (h2 : a ≤ 100000) (h3 : 0 ≤ b) (h1 : b ≤ 100000) : RgOk a b := by
  unfold RgOk
  omega
theorem g_taken_v {c : Cl} {ms : List Mt} (hm : Meets 0 ms) (he : endOf 0 ms ≤ 1000) : Gives 5 (D__law_taken c) [.lst (ms.map mtD)] (.new (.lst ((ms.flatMap fun m => tk m.1 m.2.1).map D.int))) := by
  obtain ⟨ρ', e, s2, s3, s4, rfl, _, _, _⟩ := forL_inv (U := uTup 3 (usCons (uName 2) (usCons (uName 3) (usCons (uName 4) usNil)))) (B := D__law_taken_b1 c) (ds := ms.map mtD) (fun i ρ => ∃ s2 s3 s4 : Slot, ρ = [.val (.lst (ms.map mtD)), .own (.lst (((ms.take i).flatMap fun m => tk m.1 m.2.1).map D.int)), s2, s3, s4] ∧ s2.free = true ∧ s3.free = true ∧ s4.free = true) (fun i hi ρ hw => by
    obtain ⟨s2, s3, s4, rfl, f2, f3, f4⟩ := hw
    simp at hi
    have e1 : (ms.take (i + 1)).flatMap (fun m => tk m.1 m.2.1) = (ms.take i).flatMap (fun m => tk m.1 m.2.1) ++ tk ms[i].1 ms[i].2.1 := by
      rw [List.take_add_one, List.flatMap_append]
      simp [hi]
    have hmem := meets_le (Int.le_refl 0) hm ms[i] (List.getElem_mem hi)
    have hr := RgOk_tk (a := ms[i].1) (b := ms[i].2.1) hmem.1 (by omega) (by omega) (by omega)
    have hl := flat_taken (Int.le_refl 0) (hm.take (i + 1)) (n := 1000) (by have := endOf_le (i := i + 1) hm; omega)
    rw [e1, List.length_append] at hl
    have hz : ((ms.take i).flatMap fun m => tk m.1 m.2.1).length + (tk ms[i].1 ms[i].2.1).length ≤ 16777216 := by omega
    refine ⟨_, .inl ?_, .val (.int ms[i].1), .val (.int ms[i].2.1), .val (.bl ms[i].2.2), rfl, rfl, rfl, rfl⟩
    rw [e1]
    generalize hA : (ms.take i).flatMap (fun m => tk m.1 m.2.1) = A at hz ⊢
    simp [D__law_taken_b1, mtD, f2, f3, f4, hr, rgD_tk, hz]) (ρ := [.val (.lst (ms.map mtD)), .own (.lst []), .none, .none, .none]) ⟨.none, .none, .none, by simp, rfl, rfl, rfl⟩
  simp at e
  simp [Gives, D__law_taken, e]
noncomputable def g_letsT (c : Cl) : En → SR :=
  (sSeq (sForS (dVar 1) (uTup 3 (usCons (uName 3) (usCons (uName 4) (usCons (uName 5) usNil)))) (D__law_lets_b1 c)) (sSeq (sSet 2 (dCall 1 5 (D__law_taken c) (aCons (dVar 1) aNil))) (sRet (dBin opEq (dLcS (dBin opIx (dVar 0) (dC (.int 4))) [6, 7] (uTup 2 (usCons (uName 6) (usCons (uName 7) usNil))) (dTest (dBin opNe (dBin opIn (dVar 6) (dVar 2)) (dVar 7))) (dC (.int 1))) (dLst aNil)))))
theorem g_lets_eq {c : Cl} : D__law_lets c = sSeq (sIf (tnd (dTest (dNotN (dBin opIx (dVar 0) (dC (.int 2))))) (dTest (dBin opGt (dCB fLen (aCons (dVar 1) aNil)) (dBin opIx (dVar 0) (dC (.int 2)))))) (sRet (dC (.bl false))) sNext) (g_letsT c) := rfl
theorem g_lets_v {c : Cl} {f : Fr} (hk : f.ks.length ≤ 50) {ms : List Mt} (hr : Row f ms) (hn : f.n ≤ 1000) : ∃ v, Gives 8 (D__law_lets c) [grD f, .lst (ms.map mtD)] (.val (.bl v)) := by
  have run : ∃ v, ∃ ρ' : En, g_letsT c [.val (grD f), .val (.lst (ms.map mtD)), .none, .none, .none, .none, .none, .none] = .rt (.val (.bl v)) ρ' := by
    obtain ⟨ρ', e, s3, s4, s5, rfl, f3, f4, f5⟩ := forL_inv (U := uTup 3 (usCons (uName 3) (usCons (uName 4) (usCons (uName 5) usNil)))) (B := D__law_lets_b1 c) (ds := ms.map mtD) (fun i ρ => ∃ s3 s4 s5 : Slot, ρ = [.val (grD f), .val (.lst (ms.map mtD)), .none, s3, s4, s5, .none, .none] ∧ s3.free = true ∧ s4.free = true ∧ s5.free = true) (fun i hi ρ hw => by
      obtain ⟨s3, s4, s5, rfl, f3, f4, f5⟩ := hw
      simp at hi
      obtain ⟨x1, x2⟩ := hr.x ms[i] (List.getElem_mem hi)
      refine ⟨_, .inl ?_, .val (.int ms[i].1), .val (.int ms[i].2.1), .val (.bl ms[i].2.2), rfl, rfl, rfl, rfl⟩
      have x3 : ¬ ms[i].2.1 - ms[i].1 < f.s := by omega
      cases hp : ms[i].2.2
      · simp [D__law_lets_b1, mtD, f3, f4, f5, grD, x3, hp]
      · have x4 := x2 hp
        simp [D__law_lets_b1, mtD, f3, f4, f5, grD, x3, hp, x4]) (ρ := [.val (grD f), .val (.lst (ms.map mtD)), .none, .none, .none, .none, .none, .none]) ⟨.none, .none, .none, rfl, rfl, rfl, rfl⟩
    obtain ⟨_, p⟩ := (g_taken_v (c := c) hr.m (by have := hr.e; omega)).elim
    simp at p
    generalize hA : (ms.flatMap fun m => tk m.1 m.2.1) = A at p
    have L := lc_fm (vs := [6, 7]) (U := uTup 2 (usCons (uName 6) (usCons (uName 7) usNil))) (T := dTest (dBin opNe (dBin opIn (dVar 6) (dVar 2)) (dVar 7))) (A := dC (.int 1)) (enc := knD) (fun k : Kn => if decide (k.1 ∈ A) ≠ k.2 then some (.int 1) else none) (ρ := [.val (grD f), .val (.lst (ms.map mtD)), .own (.lst (A.map D.int)), s3, s4, s5, .none, .none]) (L := f.ks) (acc := []) (fun k hk ds acc ha => by
      have ha' : acc.length < 16777216 := by omega
      by_cases hkk : decide (k.1 ∈ A) = k.2
      · simp [lcL, knD, hkk, in_ints]
      · simp [lcL, knD, hkk, ha', in_ints]) (by simp; omega)
    have hfl : f.ks.filterMap (fun k : Kn => if decide (k.1 ∈ A) ≠ k.2 then some (D.int 1) else none) = ((f.ks.filter fun k => decide (decide (k.1 ∈ A) ≠ k.2)).map fun _ => (1 : Int)).map D.int := by
      generalize f.ks = ks
      induction ks with
      | nil => rfl
      | cons k ks ih => by_cases hkk : decide (k.1 ∈ A) = k.2 <;> simp [hkk] at ih ⊢ <;> exact ih
    rw [hfl] at L
    have en := eqB_ints_nil ((f.ks.filter fun k => decide (decide (k.1 ∈ A) ≠ k.2)).map fun _ => (1 : Int))
    generalize hB : ((f.ks.filter fun k => decide (decide (k.1 ∈ A) ≠ k.2)).map fun _ => (1 : Int)) = B at L en
    refine ⟨B.isEmpty, [.val (grD f), .val (.lst (ms.map mtD)), .own (.lst (A.map D.int)), s3, s4, s5, .none, .none], ?_⟩
    simp [grD] at e L ⊢
    simp [g_letsT, e, p, L, lcAll, en]
  obtain ⟨v, ρ', e⟩ := run
  cases hm : f.m with
  | none =>
    simp [grD, hm, moD] at e
    exact ⟨v, by simp [Gives, g_lets_eq, grD, hm, moD, e]⟩
  | some i =>
    simp [grD, hm, moD] at e
    by_cases h1 : i < (ms.length : Int)
    · exact ⟨false, by simp [Gives, g_lets_eq, grD, hm, moD, h1]⟩
    · exact ⟨v, by simp [Gives, g_lets_eq, grD, hm, moD, h1, e]⟩
end DL
set_option linter.all false
set_option maxRecDepth 100000
set_option maxHeartbeats 1000000
namespace DL
open PySem PySem.Spec PyProof.Rows L2 DD
theorem sort_v {c : Cl} {r : Ru} {p : Bool} : Gives 2 (D__law_sort c) [ruD r, .bl p] (.val (wordD (wordOf r.p p))) := by
  cases p
  · simp [Gives, D__law_sort, ruD, wordOf, wordD]
  · by_cases h1 : r.p = "busy"
    · simp [Gives, D__law_sort, ruD, wordOf, wordD, h1]
    · by_cases h2 : r.p = "none"
      · simp [Gives, D__law_sort, ruD, wordOf, wordD, h2]
      · simp [Gives, D__law_sort, ruD, wordOf, wordD, h1, h2]
/-- 80 ticks, painted or not -/
def pnt (P : Nat → Bool) : List D := (List.range 80).map fun i => D.bl (P i)
theorem pnt_len {P : Nat → Bool} : (pnt P).length = 80 := by simp [pnt]
theorem pnt_set {P : Nat → Bool} {t : Nat} (h : t < 80) : (pnt P).set t (.bl true) = pnt fun i => P i || i == t := by
  apply List.ext_getElem
  · simp [pnt]
  · intro i h1 h2
    simp [pnt] at h1 h2 ⊢
    rw [List.getElem_set]
    by_cases e : t = i
    · simp [e]
    · have e' : ¬ i = t := fun z => e z.symm
      simp [e, e']
theorem pnt_false : List.replicate 80 (D.bl false) = pnt fun _ => false := by
  simp only [pnt, List.map_const', List.length_range]
theorem pnt_congr {P Q : Nat → Bool} (h : ∀ i < 80, P i = Q i) : pnt P = pnt Q := by
  unfold pnt
  apply List.map_congr_left
  intro i hi
  rw [h i (List.mem_range.mp hi)]
theorem tk_get {a b : Int} {i : Nat} (h : i < ((tk a b).map D.int).length) : ((tk a b).map D.int)[i] = .int (a + (i : Nat)) := by
  simp [tk]
theorem paint_loop {c : Cl} {P : Nat → Bool} {a b : Int} (h0 : 0 ≤ a) (h1 : b ≤ 80) {v0 v1 v2 v3 v4 v6 v7 v8 v9 v10 v11 s12 v13 v14 : Slot} (f12 : s12.free = true) : ∃ t12 : Slot, forL (uName 12) (D__law_painted_2_b1 c) ((tk a b).map D.int) [v0, v1, v2, v3, v4, .own (.lst (pnt P)), v6, v7, v8, v9, v10, v11, s12, v13, v14] = .nx [v0, v1, v2, v3, v4, .own (.lst (pnt fun n => P n || (decide (a ≤ n) && decide ((n : Int) < b)))), v6, v7, v8, v9, v10, v11, t12, v13, v14] ∧ t12.free = true := by
  obtain ⟨ρ', e, t12, rfl, g12⟩ := forL_inv (U := uName 12) (B := D__law_painted_2_b1 c) (ds := (tk a b).map D.int) (fun i ρ => ∃ s12 : Slot, ρ = [v0, v1, v2, v3, v4, .own (.lst (pnt fun n => P n || (decide (a ≤ n) && decide ((n : Int) < a + i)))), v6, v7, v8, v9, v10, v11, s12, v13, v14] ∧ s12.free = true) (fun i hi ρ hw => by
    obtain ⟨s12, rfl, f12⟩ := hw
    rw [tk_get hi]
    have hi' : a + (i : Nat) < b := by
      simp [tk] at hi
      omega
    obtain ⟨t, ht⟩ : ∃ t : Nat, a + (i : Int) = (t : Int) := ⟨(a + (i : Int)).toNat, by omega⟩
    have ht2 : t < 80 := by omega
    refine ⟨_, .inl ?_, .val (.int (a + (i : Int))), rfl, rfl⟩
    have hs := pnt_set (P := fun n => P n || (decide (a ≤ n) && decide ((n : Int) < a + i))) ht2
    have hp := pnt_congr (P := fun n => (P n || (decide (a ≤ n) && decide ((n : Int) < a + i))) || n == t) (Q := fun n => P n || (decide (a ≤ n) && decide ((n : Int) < a + ((i + 1 : Nat) : Int)))) (fun n hn => by
      by_cases e : n = t
      · subst e
        have h1 : a ≤ (n : Int) := by omega
        have h2 : (n : Int) < a + ((i + 1 : Nat) : Int) := by omega
        simp only [beq_self_eq_true, Bool.or_true, h1, h2, decide_true, Bool.and_self]
      · have h3 : ((n : Int) < a + ((i + 1 : Nat) : Int)) ↔ ((n : Int) < a + (i : Int)) := by omega
        have e' : (n == t) = false := by simp [e]
        simp only [h3, e', Bool.or_false])
    rw [← hp, ← hs]
    generalize hA : pnt (fun n => P n || (decide (a ≤ n) && decide ((n : Int) < a + i))) = A
    have hAl : A.length = 80 := by rw [← hA]; exact pnt_len
    have ht3 : (t : Int) < 80 := by omega
    rw [ht]
    simp [D__law_painted_2_b1, f12, hAl, ixN, ht3, ht2]) (ρ := [v0, v1, v2, v3, v4, .own (.lst (pnt P)), v6, v7, v8, v9, v10, v11, s12, v13, v14]) ⟨s12, by
      have := pnt_congr (P := P) (Q := fun n => P n || (decide (a ≤ n) && decide ((n : Int) < a + ((0 : Nat) : Int)))) (fun n hn => by
        have : ¬ ((n : Int) < a ∧ a ≤ n) := by omega
        by_cases h : a ≤ (n : Int)
        · have h' : ¬ (n : Int) < a := by omega
          simp [h, h']
        · simp [h])
      rw [← this], f12⟩
  refine ⟨t12, ?_, g12⟩
  rw [e]
  have := pnt_congr (P := fun n => P n || (decide (a ≤ n) && decide ((n : Int) < a + (((tk a b).map D.int).length : Nat)))) (Q := fun n => P n || (decide (a ≤ n) && decide ((n : Int) < b))) (fun n hn => by
    by_cases h : a ≤ b
    · have hl := tk_len h
      have : a + ((((tk a b).map D.int).length : Nat) : Int) = b := by simp; omega
      rw [this]
    · have h2 : ¬ (a ≤ (n : Int) ∧ (n : Int) < b) := by omega
      have h3 : (tk a b).length = 0 := by simp [tk]; omega
      by_cases h4 : a ≤ (n : Int)
      · have h5 : ¬ (n : Int) < b := by omega
        have h6 : ¬ (n : Int) < a + ((((tk a b).map D.int).length : Nat) : Int) := by simp [h3]; omega
        simp only [h5, h6]
      · simp [h4])
  rw [this]
end DL
set_option linter.all false
set_option maxRecDepth 100000
set_option maxHeartbeats 1000000
namespace DL
open PySem PySem.Spec PyProof.Rows L2 DD
theorem tk_map {a b : Int} : (tk a b).map D.int = (List.range (b - a).toNat).map fun n => D.int (a + (n : Nat)) := by
  rw [tk, List.map_map]
  rfl
theorem p2_out {c : Cl} {r : Ru} {w p : Bool} (h : ¬ wordOf r.p p = some w) {d1 v3 v4 F v6 v7 v8 s10 s11 s12 s13 s14 : Slot} : D__law_painted_2_b2 c [.val (ruD r), d1, .val (.str (wd w)), v3, v4, F, v6, v7, v8, .val (.bl p), s10, s11, s12, s13, s14] = .nx [.val (ruD r), d1, .val (.str (wd w)), v3, v4, F, v6, v7, v8, .val (.bl p), s10, s11, s12, s13, s14] := by
  obtain ⟨_, q⟩ := (sort_v (c := c) (r := r) (p := p)).elim
  have e := wordD_eq (o := wordOf r.p p) (w := w)
  simp only [h, decide_false] at e
  simp at q
  simp [D__law_painted_2_b2, q, e]
theorem p2_none {c : Cl} {r : Ru} (ok : RuOk r) {w p : Bool} (h : wordOf r.p p = some w) {b e : Int} (hb : 0 ≤ b) (he : b < e) (he2 : e ≤ 72) {P : Nat → Bool} {d1 s10 s11 s12 s13 s14 : Slot} (f10 : s10.free = true) (f11 : s11.free = true) (f12 : s12.free = true) (f13 : s13.free = true) (f14 : s14.free = true) : ∃ t10 t11 t12 t13 t14 : Slot, D__law_painted_2_b2 c [.val (ruD r), d1, .val (.str (wd w)), .val (.int r.s), .val (.int r.g), .own (.lst (pnt P)), .val .non, .val (.int b), .val (.int e), .val (.bl p), s10, s11, s12, s13, s14] = .nx [.val (ruD r), d1, .val (.str (wd w)), .val (.int r.s), .val (.int r.g), .own (.lst (pnt fun n => P n || (decide (dn b r.s ≤ n) && decide ((n : Int) < up e r.s)))), .val (.int (up e r.s)), .val (.int b), .val (.int e), .val (.bl p), t10, t11, t12, t13, t14] ∧ t10.free = true ∧ t11.free = true ∧ t12.free = true ∧ t13.free = true ∧ t14.free = true := by
  obtain ⟨_, q⟩ := (sort_v (c := c) (r := r) (p := p)).elim
  have eq := wordD_eq (o := wordOf r.p p) (w := w)
  simp only [h, decide_true] at eq
  rw [h] at q
  have hs := ok.s
  have hs0 : 0 < r.s := by omega
  have h1 := dn_nonneg (b := b) hs.1 hb
  have h2 := dn_le (b := b) hs.1
  have h3 := le_up (e := e) hs.1
  have r1 : -4611686018427387904 ≤ dn b r.s := by omega
  have r2 : dn b r.s < 4611686018427387904 := by omega
  have r3 : -4611686018427387904 ≤ up e r.s := by omega
  have r4 : up e r.s < 4611686018427387904 := by omega
  obtain ⟨t12, L, g12⟩ := paint_loop (c := c) (P := P) (a := dn b r.s) (b := up e r.s) h1 (by omega) (v0 := .val (ruD r)) (v1 := d1) (v2 := .val (.str (wd w))) (v3 := .val (.int r.s)) (v4 := .val (.int r.g)) (v6 := .val .non) (v7 := .val (.int b)) (v8 := .val (.int e)) (v9 := .val (.bl p)) (v10 := .val (.bl (w && decide (r.p = "one")))) (v11 := .val (.int (dn b r.s))) (v13 := .val (.int (dn b r.s))) (v14 := .val (.int (up e r.s))) f12
  rw [tk_map] at L
  refine ⟨.val (.bl (w && decide (r.p = "one"))), .val (.int (dn b r.s)), t12, .val (.int (dn b r.s)), .val (.int (up e r.s)), ?_, rfl, rfl, g12, rfl, rfl⟩
  simp at q
  cases w
  · simp at L eq q
    simp [D__law_painted_2_b2, ruD] at q L ⊢
    simp [q, eq, hs0, dn_law, up_law' hs.1, f10, f11, f12, f13, f14, r1, r2, r3, r4, L]
  · simp at L eq q
    simp [D__law_painted_2_b2, ruD] at q L ⊢
    simp [q, eq, hs0, dn_law, up_law' hs.1, f10, f11, f12, f13, f14, r1, r2, r3, r4, L]
theorem p2_some {c : Cl} {r : Ru} (ok : RuOk r) {w p : Bool} (h : wordOf r.p p = some w) {b e z : Int} (hb : 0 ≤ b) (he : b < e) (he2 : e ≤ 72) (hz : 0 ≤ z) (hz2 : z ≤ 80) {P : Nat → Bool} {d1 s10 s11 s12 s13 s14 : Slot} (f10 : s10.free = true) (f11 : s11.free = true) (f12 : s12.free = true) (f13 : s13.free = true) (f14 : s14.free = true) : ∃ t10 t11 t12 t13 t14 : Slot, D__law_painted_2_b2 c [.val (ruD r), d1, .val (.str (wd w)), .val (.int r.s), .val (.int r.g), .own (.lst (pnt P)), .val (.int z), .val (.int b), .val (.int e), .val (.bl p), s10, s11, s12, s13, s14] = .nx [.val (ruD r), d1, .val (.str (wd w)), .val (.int r.s), .val (.int r.g), .own (.lst (pnt fun n => P n || (decide ((if isJ r w z (dn b r.s) then mn z (dn b r.s) else dn b r.s) ≤ n) && decide ((n : Int) < up e r.s)))), .val (.int (up e r.s)), .val (.int b), .val (.int e), .val (.bl p), t10, t11, t12, t13, t14] ∧ t10.free = true ∧ t11.free = true ∧ t12.free = true ∧ t13.free = true ∧ t14.free = true := by
  obtain ⟨_, q⟩ := (sort_v (c := c) (r := r) (p := p)).elim
  have eq := wordD_eq (o := wordOf r.p p) (w := w)
  simp only [h, decide_true] at eq
  rw [h] at q
  have hs := ok.s
  have hs0 : 0 < r.s := by omega
  have h1 := dn_nonneg (b := b) hs.1 hb
  have h2 := dn_le (b := b) hs.1
  have h3 := le_up (e := e) hs.1
  have r3 : -4611686018427387904 ≤ up e r.s := by omega
  have r4 : up e r.s < 4611686018427387904 := by omega
  by_cases hj : isJ r w z (dn b r.s)
  · have hm : 0 ≤ mn z (dn b r.s) ∧ mn z (dn b r.s) ≤ 80 := by unfold mn; split <;> omega
    rw [if_pos hj]
    obtain ⟨m, hm0⟩ : ∃ m, m = mn z (dn b r.s) := ⟨_, rfl⟩
    rw [← hm0] at hm ⊢
    have r1 : -4611686018427387904 ≤ m := by omega
    have r2 : m < 4611686018427387904 := by omega
    obtain ⟨t12, L, g12⟩ := paint_loop (c := c) (P := P) (a := m) (b := up e r.s) hm.1 (by omega) (v0 := .val (ruD r)) (v1 := d1) (v2 := .val (.str (wd w))) (v3 := .val (.int r.s)) (v4 := .val (.int r.g)) (v6 := .val (.int z)) (v7 := .val (.int b)) (v8 := .val (.int e)) (v9 := .val (.bl p)) (v10 := .val (.bl (w && decide (r.p = "one")))) (v11 := .val (.int z)) (v13 := .val (.int (dn b r.s))) (v14 := .val (.int (up e r.s))) f12
    rw [tk_map] at L
    refine ⟨.val (.bl (w && decide (r.p = "one"))), .val (.int z), t12, .val (.int (dn b r.s)), .val (.int (up e r.s)), ?_, rfl, rfl, g12, rfl, rfl⟩
    unfold mn at hm0
    unfold isJ at hj
    simp at q
    by_cases c1 : dn b r.s - z ≤ r.g
    · cases w
      · simp at L eq q
        simp [D__law_painted_2_b2, ruD] at q L ⊢
        simp [q, eq, hs0, dn_law, up_law' hs.1, f10, f11, f12, f13, f14, c1, ← hm0, r1, r2, r3, r4, L]
      · simp at L eq q
        simp [D__law_painted_2_b2, ruD] at q L ⊢
        simp [q, eq, hs0, dn_law, up_law' hs.1, f10, f11, f12, f13, f14, c1, ← hm0, r1, r2, r3, r4, L]
    · have c2 : w = true ∧ r.p = "one" := hj.resolve_right c1
      obtain ⟨rfl, c3⟩ := c2
      simp [c3] at L eq q
      simp [D__law_painted_2_b2, ruD, c3] at q L ⊢
      simp [q, eq, hs0, dn_law, up_law' hs.1, f10, f11, f12, f13, f14, c1, c3, ← hm0, r1, r2, r3, r4, L]
  · rw [if_neg hj]
    have r1 : -4611686018427387904 ≤ dn b r.s := by omega
    have r2 : dn b r.s < 4611686018427387904 := by omega
    obtain ⟨t12, L, g12⟩ := paint_loop (c := c) (P := P) (a := dn b r.s) (b := up e r.s) h1 (by omega) (v0 := .val (ruD r)) (v1 := d1) (v2 := .val (.str (wd w))) (v3 := .val (.int r.s)) (v4 := .val (.int r.g)) (v6 := .val (.int z)) (v7 := .val (.int b)) (v8 := .val (.int e)) (v9 := .val (.bl p)) (v10 := .val (.bl (w && decide (r.p = "one")))) (v11 := .val (.int (dn b r.s))) (v13 := .val (.int (dn b r.s))) (v14 := .val (.int (up e r.s))) f12
    rw [tk_map] at L
    unfold isJ at hj
    have c1 : ¬ dn b r.s - z ≤ r.g := fun h => hj (.inr h)
    have c2 : ¬ (w = true ∧ r.p = "one") := fun h => hj (.inl h)
    refine ⟨.val (.bl (w && decide (r.p = "one"))), .val (.int (dn b r.s)), t12, .val (.int (dn b r.s)), .val (.int (up e r.s)), ?_, rfl, rfl, g12, rfl, rfl⟩
    simp at q
    cases w
    · simp at L eq q
      simp [D__law_painted_2_b2, ruD] at q L ⊢
      simp [q, eq, hs0, dn_law, up_law' hs.1, f10, f11, f12, f13, f14, c1, r1, r2, r3, r4, L]
    · have c3 : ¬ r.p = "one" := fun h => c2 ⟨rfl, h⟩
      simp [c3] at L eq q
      simp [D__law_painted_2_b2, ruD] at q L ⊢
      simp [q, eq, hs0, dn_law, up_law' hs.1, f10, f11, f12, f13, f14, c1, c3, r1, r2, r3, r4, L]
end DL
set_option linter.all false
set_option maxRecDepth 100000
set_option maxHeartbeats 1000000
namespace DL
open PySem PySem.Spec PyProof.Rows L2 DD
/-- spans that are joined so far, up to a tick -/
structure JI (r : Ru) (a : Int) (J : List (Int × Int)) : Prop where
  spc : Spc (up a r.s) J
  st : ∀ y ∈ J, y.1 ≤ dn a r.s
theorem JI.mono {r : Ru} (hs : 1 ≤ r.s) {a b : Int} {J : List (Int × Int)} (h : JI r a J) (hb : a ≤ b) : JI r b J :=
  ⟨h.spc.mono (up_mono hs hb), fun y hy => Int.le_trans (h.st y hy) (dn_mono hs hb)⟩
theorem JI.step {r : Ru} (ok : RuOk r) {w : Bool} {J : List (Int × Int)} {a b e : Int} (h : JI r a J) (h0 : 0 ≤ a) (hb : a ≤ b) (he : b < e) : JI r e (jn r w J (dn b r.s, up e r.s)) := by
  have h1s := ok.s.1
  have hS := h.spc
  have d1 := dn_nonneg (b := b) h1s (by omega)
  have d2 := dn_le (b := b) h1s
  have d3 := le_up (e := e) h1s
  have d4 := dn_mono (s := r.s) h1s hb
  have d5 := dn_mono (s := r.s) (a := b) (b := e) h1s (by omega)
  have hup : up a r.s ≤ up e r.s := up_mono h1s (by omega)
  rcases List.eq_nil_or_concat J with hJ0 | ⟨J', y, hJ0⟩
  · subst hJ0
    rw [jn_nil]
    refine ⟨Spc.snoc (J := []) (y := (dn b r.s, up e r.s)) (a := 0) Spc.nil d1 (fun x hx => by simp at hx) (by show dn b r.s < up e r.s; omega) (Int.le_refl _) (by show 0 ≤ up e r.s; omega), fun y hy => ?_⟩
    simp at hy
    subst hy
    exact d5
  · rw [List.concat_eq_append] at hJ0
    subst hJ0
    have hy := hS.one y (by simp)
    rw [jn_snoc]
    by_cases hj : isJ r w y.2 (dn b r.s)
    · rw [if_pos hj]
      refine ⟨Spc.snoc (J := J') (y := (y.1, up e r.s)) (a := y.1) hS.init hy.1 (fun x hx => by
        exact (List.pairwise_append.mp hS.two).2.2 x hx y (by simp)) (by show y.1 < up e r.s; omega) (Int.le_refl _) (by show y.1 ≤ up e r.s; omega), fun x hx => ?_⟩
      rw [List.mem_append] at hx
      rcases hx with hx | hx
      · have := h.st x (by simp [hx])
        omega
      · simp at hx
        subst hx
        have := h.st y (by simp)
        show y.1 ≤ dn e r.s
        omega
    · rw [if_neg hj]
      have hj2 : ¬ dn b r.s - y.2 ≤ r.g := fun h => hj (.inr h)
      have hg := ok.g.1
      refine ⟨Spc.snoc (J := J' ++ [y]) (y := (dn b r.s, up e r.s)) hS d1 (fun x hx => by
        rw [List.mem_append] at hx
        show x.2 < dn b r.s
        rcases hx with hx | hx
        · have h5 := (List.pairwise_append.mp hS.two).2.2 x hx y (by simp)
          omega
        · simp at hx
          subst hx
          omega) (by show dn b r.s < up e r.s; omega) (Int.le_refl _) hup, fun x hx => ?_⟩
      rw [List.mem_append] at hx
      rcases hx with hx | hx
      · have := h.st x hx
        omega
      · simp at hx
        subst hx
        exact d5
def lastD (J : List (Int × Int)) : D := match J.getLast? with
  | none => .non
  | some y => .int y.2
theorem lastD_snoc {J : List (Int × Int)} {y : Int × Int} : lastD (J ++ [y]) = .int y.2 := by simp [lastD]
def pJ (J : List (Int × Int)) : Nat → Bool := fun n => decide ((n : Int) ∈ flat J)
theorem dec_congr {p q : Prop} [Decidable p] [Decidable q] (h : p ↔ q) : decide p = decide q := by
  by_cases e : p
  · rw [decide_eq_true e, decide_eq_true (h.mp e)]
  · rw [decide_eq_false e, decide_eq_false fun z => e (h.mpr z)]
theorem pJ_new {J : List (Int × Int)} {a b : Int} : (fun n : Nat => pJ J n || (decide (a ≤ n) && decide ((n : Int) < b))) = pJ (J ++ [(a, b)]) := by
  funext n
  unfold pJ
  rw [flat_snoc, ← Bool.decide_and, ← Bool.decide_or]
  apply dec_congr
  rw [List.mem_append, mem_tk]
theorem pJ_more {J : List (Int × Int)} {y : Int × Int} {m e : Int} (h1 : y.1 ≤ m) (h2 : m ≤ y.2) (h3 : y.2 ≤ e) : (fun n : Nat => pJ (J ++ [y]) n || (decide (m ≤ n) && decide ((n : Int) < e))) = pJ (J ++ [(y.1, e)]) := by
  funext n
  unfold pJ
  rw [flat_snoc, flat_snoc, ← Bool.decide_and, ← Bool.decide_or]
  apply dec_congr
  rw [List.mem_append, List.mem_append, mem_tk, mem_tk]
  dsimp only
  constructor
  · rintro ((h | h) | h)
    · exact .inl h
    · exact .inr (by omega)
    · exact .inr (by omega)
  · rintro (h | h)
    · exact .inl (.inl h)
    · by_cases hm : m ≤ (n : Int)
      · exact .inr (by omega)
      · exact .inl (.inr (by omega))
theorem painted2_v {c : Cl} {r : Ru} (ok : RuOk r) {ms : List Mt} (hm : Meets 0 ms) (hn : endOf 0 ms ≤ 70) {w : Bool} : Gives 15 (D__law_painted_2 c) [ruD r, .lst (ms.map mtD), .str (wd w)] (.new (.lst (pnt (pJ (jnd r w ms))))) ∧ JI r (endOf 0 ms) (jnd r w ms) := by
  have h1s := ok.s.1
  obtain ⟨ρ', e, J, s7, s8, s9, s10, s11, s12, s13, s14, rfl, _, _, _, _, _, _, _, _, hJ, hS⟩ := forL_inv (U := uTup 3 (usCons (uName 7) (usCons (uName 8) (usCons (uName 9) usNil)))) (B := D__law_painted_2_b2 c) (ds := ms.map mtD) (fun i ρ => ∃ (J : List (Int × Int)) (s7 s8 s9 s10 s11 s12 s13 s14 : Slot), ρ = [.val (ruD r), .val (.lst (ms.map mtD)), .val (.str (wd w)), .val (.int r.s), .val (.int r.g), .own (.lst (pnt (pJ J))), .val (lastD J), s7, s8, s9, s10, s11, s12, s13, s14] ∧ s7.free = true ∧ s8.free = true ∧ s9.free = true ∧ s10.free = true ∧ s11.free = true ∧ s12.free = true ∧ s13.free = true ∧ s14.free = true ∧ J = ((ms.take i).filterMap (spanOf r w)).foldl (jn r w) [] ∧ JI r (endOf 0 (ms.take i)) J) (fun i hi ρ hw => by
    obtain ⟨J, s7, s8, s9, s10, s11, s12, s13, s14, rfl, f7, f8, f9, f10, f11, f12, f13, f14, hJ, hS⟩ := hw
    simp at hi
    obtain ⟨g1, g2, g3, g4⟩ := Meets.at hm hi
    have g5 := endOf_le (i := i + 1) hm
    have e1 : ((ms.take (i + 1)).filterMap (spanOf r w)).foldl (jn r w) [] = match spanOf r w ms[i] with
      | some x => jn r w J x
      | none => J := by
      rw [List.take_add_one, List.filterMap_append, List.foldl_append, ← hJ]
      cases e : spanOf r w ms[i] <;> simp [hi, e]
    have g6 : 0 ≤ endOf 0 (ms.take i) := g4
    have hst : stepL (uTup 3 (usCons (uName 7) (usCons (uName 8) (usCons (uName 9) usNil)))) (D__law_painted_2_b2 c) (ms.map mtD)[i] [.val (ruD r), .val (.lst (ms.map mtD)), .val (.str (wd w)), .val (.int r.s), .val (.int r.g), .own (.lst (pnt (pJ J))), .val (lastD J), s7, s8, s9, s10, s11, s12, s13, s14] = D__law_painted_2_b2 c [.val (ruD r), .val (.lst (ms.map mtD)), .val (.str (wd w)), .val (.int r.s), .val (.int r.g), .own (.lst (pnt (pJ J))), .val (lastD J), .val (.int ms[i].1), .val (.int ms[i].2.1), .val (.bl ms[i].2.2), s10, s11, s12, s13, s14] := by
      simp [mtD, f7, f8, f9]
    rw [hst]
    by_cases hw : wordOf r.p ms[i].2.2 = some w
    · have hx : spanOf r w ms[i] = some (dn ms[i].1 r.s, up ms[i].2.1 r.s) := by simp [spanOf, hw]
      rw [hx] at e1
      dsimp only at e1
      have hN := hS.step ok (w := w) g4 g1 g2
      rw [← g3] at hN
      rcases List.eq_nil_or_concat J with hJ0 | ⟨J', y, hJ0⟩
      · subst hJ0
        obtain ⟨t10, t11, t12, t13, t14, ep, q10, q11, q12, q13, q14⟩ := p2_none (c := c) ok hw (b := ms[i].1) (e := ms[i].2.1) (by omega) g2 (by omega) (P := pJ []) (d1 := .val (.lst (ms.map mtD))) f10 f11 f12 f13 f14
        refine ⟨_, .inl ep, jn r w [] (dn ms[i].1 r.s, up ms[i].2.1 r.s), .val (.int ms[i].1), .val (.int ms[i].2.1), .val (.bl ms[i].2.2), t10, t11, t12, t13, t14, ?_, rfl, rfl, rfl, q10, q11, q12, q13, q14, e1.symm, by rw [g3] at hN ⊢; exact hN⟩
        rw [pJ_new, jn_nil]
        rfl
      · rw [List.concat_eq_append] at hJ0
        subst hJ0
        have hy := hS.spc.one y (by simp)
        have hy1 := hS.st y (by simp)
        have u1 := le_up (e := endOf 0 (ms.take i)) h1s
        have u2 := up_mono (a := endOf 0 (ms.take i)) (b := ms[i].2.1) (s := r.s) h1s (by omega)
        have u3 := dn_mono (a := endOf 0 (ms.take i)) (b := ms[i].1) (s := r.s) h1s (by omega)
        have hs8 := ok.s.2
        obtain ⟨t10, t11, t12, t13, t14, ep, q10, q11, q12, q13, q14⟩ := p2_some (c := c) ok hw (b := ms[i].1) (e := ms[i].2.1) (z := y.2) (by omega) g2 (by omega) (by omega) (by omega) (P := pJ (J' ++ [y])) (d1 := .val (.lst (ms.map mtD))) f10 f11 f12 f13 f14
        rw [lastD_snoc]
        refine ⟨_, .inl ep, jn r w (J' ++ [y]) (dn ms[i].1 r.s, up ms[i].2.1 r.s), .val (.int ms[i].1), .val (.int ms[i].2.1), .val (.bl ms[i].2.2), t10, t11, t12, t13, t14, ?_, rfl, rfl, rfl, q10, q11, q12, q13, q14, e1.symm, by rw [g3] at hN ⊢; exact hN⟩
        rw [jn_snoc]
        by_cases hj : isJ r w y.2 (dn ms[i].1 r.s)
        · rw [if_pos hj, if_pos hj, pJ_more (by unfold mn; split <;> omega) (by unfold mn; split <;> omega) (by omega), lastD_snoc]
        · rw [if_neg hj, if_neg hj, pJ_new, lastD_snoc]
    · have hx : spanOf r w ms[i] = none := by simp [spanOf, hw]
      rw [hx] at e1
      dsimp only at e1
      rw [p2_out (c := c) hw]
      exact ⟨_, .inl rfl, J, .val (.int ms[i].1), .val (.int ms[i].2.1), .val (.bl ms[i].2.2), s10, s11, s12, s13, s14, rfl, rfl, rfl, rfl, f10, f11, f12, f13, f14, e1.symm, hS.mono h1s (by omega)⟩) (ρ := [.val (ruD r), .val (.lst (ms.map mtD)), .val (.str (wd w)), .val (.int r.s), .val (.int r.g), .own (.lst (pnt (pJ []))), .val .non, .none, .none, .none, .none, .none, .none, .none, .none]) ⟨[], .none, .none, .none, .none, .none, .none, .none, .none, rfl, rfl, rfl, rfl, rfl, rfl, rfl, rfl, rfl, rfl, Spc.nil, fun y hy => by simp at hy⟩
  simp at hJ
  have hS' : JI r (endOf 0 ms) J := by
    have := hS
    rwa [List.length_map, List.take_length] at this
  refine ⟨?_, by rw [jnd, ← hJ]; exact hS'⟩
  rw [jnd, ← hJ]
  have pf : pnt (pJ []) = List.replicate 80 (D.bl false) := by
    rw [pnt_false]
    exact pnt_congr fun i _ => by simp [pJ, flat]
  have rp : opRep (.lst [.bl false]) (.int 80) = some (.new (.lst (List.replicate 80 (.bl false)))) := by
    simp [opRep, sl_eq]
  rw [pf] at e
  simp only [ruD] at e
  generalize hL : List.replicate 80 (D.bl false) = L at e rp
  simp [Gives, D__law_painted_2, ruD, rp, e]
end DL
set_option linter.all false
set_option maxRecDepth 100000
set_option maxHeartbeats 1000000
namespace DL
open PySem PySem.Spec PyProof.Rows L2 DD
theorem mem_flat_iff {J : List (Int × Int)} {t : Int} : t ∈ flat J ↔ ∃ x ∈ J, x.1 ≤ t ∧ t < x.2 := by
  simp only [flat, List.mem_flatMap, mem_tk]
/-- what has been read off up to a tick: whole spans, and where an open one begins -/
def Sc (J : List (Int × Int)) (t : Int) (A : List (Int × Int)) (b : Option Int) : Prop := ∃ B, J = A ++ B ∧ (∀ x ∈ A, x.2 < t) ∧ match b with
  | none => ∀ y ∈ B, t ≤ y.1
  | some v => ∃ y B', B = y :: B' ∧ v = y.1 ∧ y.1 < t ∧ t ≤ y.2
theorem Sc.first {J : List (Int × Int)} {a : Int} (h : Spc a J) : Sc J 0 [] none := ⟨J, rfl, fun x hx => by simp at hx, fun y hy => (h.one y hy).1⟩
section
variable {J A : List (Int × Int)} {a t v : Int}
theorem Sc.op (h : Spc a J) (s : Sc J t A none) (p : t ∈ flat J) : Sc J (t + 1) A (some t) := by
  obtain ⟨B, rfl, hA, hB⟩ := s
  dsimp only at hB
  obtain ⟨x, hx, h1, h2⟩ := mem_flat_iff.mp p
  rw [List.mem_append] at hx
  rcases hx with hx | hx
  · have := hA x hx
    omega
  · have h3 := hB x hx
    refine ⟨B, rfl, fun x hx => by have := hA x hx; omega, ?_⟩
    cases B with
    | nil => simp at hx
    | cons y B =>
      rcases List.mem_cons.mp hx with rfl | hx'
      · exact ⟨x, B, rfl, by omega, by omega, by omega⟩
      · have h4 := (List.pairwise_append.mp h.two).2.1
        have h5 := (List.pairwise_cons.mp h4).1 x hx'
        have h6 := hB y (by simp)
        have h7 := h.one y (by simp)
        omega
theorem Sc.stay (h : Spc a J) (s : Sc J t A (some v)) (p : t ∈ flat J) : Sc J (t + 1) A (some v) := by
  obtain ⟨B, rfl, hA, y, B', rfl, rfl, h1, h2⟩ := s
  refine ⟨_, rfl, fun x hx => by have := hA x hx; omega, y, B', rfl, rfl, by omega, ?_⟩
  obtain ⟨x, hx, h3, h4⟩ := mem_flat_iff.mp p
  rw [List.mem_append] at hx
  rcases hx with hx | hx
  · have := hA x hx
    omega
  · rcases List.mem_cons.mp hx with rfl | hx'
    · omega
    · have h5 := (List.pairwise_cons.mp (List.pairwise_append.mp h.two).2.1).1 x hx'
      omega
theorem Sc.skip (h : Spc a J) (s : Sc J t A none) (p : ¬ t ∈ flat J) : Sc J (t + 1) A none := by
  obtain ⟨B, rfl, hA, hB⟩ := s
  dsimp only at hB
  refine ⟨B, rfl, fun x hx => by have := hA x hx; omega, fun y hy => ?_⟩
  have h1 := hB y hy
  have h2 := h.one y (by simp [hy])
  by_cases e : t = y.1
  · exact absurd (mem_flat_iff.mpr ⟨y, by simp [hy], by omega, by omega⟩) p
  · omega
theorem Sc.shut (h : Spc a J) (s : Sc J t A (some v)) (p : ¬ t ∈ flat J) : Sc J (t + 1) (A ++ [(v, t)]) none ∧ v < t := by
  obtain ⟨B, rfl, hA, y, B', rfl, rfl, h1, h2⟩ := s
  have e : t = y.2 := by
    by_cases e : t < y.2
    · exact absurd (mem_flat_iff.mpr ⟨y, by simp, by omega, e⟩) p
    · omega
  subst e
  refine ⟨⟨B', by simp, fun x hx => ?_, fun z hz => ?_⟩, h1⟩
  · rw [List.mem_append] at hx
    rcases hx with hx | hx
    · have := hA x hx
      omega
    · simp at hx
      subst hx
      show y.2 < y.2 + 1
      omega
  · have h5 := (List.pairwise_cons.mp (List.pairwise_append.mp h.two).2.1).1 z hz
    omega
theorem Sc.last (h : Spc a J) (ha : a < t) {b : Option Int} (s : Sc J t A b) : A = J ∧ b = none := by
  obtain ⟨B, rfl, hA, hB⟩ := s
  cases b with
  | none =>
    dsimp only at hB
    cases B with
    | nil => simp
    | cons y B =>
      have h1 := hB y (by simp)
      have h2 := h.one y (by simp)
      omega
  | some v =>
    obtain ⟨y, B', rfl, rfl, h1, h2⟩ := hB
    have h3 := h.one y (by simp)
    omega
end
theorem enum_pnt {P : Nat → Bool} {i : Nat} (h : i < (enumD 0 (pnt P)).length) : (enumD 0 (pnt P))[i] = .tup [.int (i : Nat), .bl (P i)] := by
  have h2 : i < 80 := by rw [enumD_len, pnt_len] at h; exact h
  have e := enumD_get (ds := pnt P) (k := 0) (i := i)
  rw [List.getElem?_eq_getElem h] at e
  have e2 : (pnt P)[i]? = some (.bl (P i)) := by simp [pnt, h2]
  rw [e2] at e
  simpa using e
def opD : Option Int → D
  | none => .non
  | some v => .int v
theorem flat_up {J : List (Int × Int)} {a : Int} {r : Ru} (ok : RuOk r) (ha : a ≤ 70) (h : JI r a J) : Spc 78 J := h.spc.mono (by
  have := le_up (e := a) ok.s.1
  have := ok.s.2
  omega)
theorem sc_len {J A : List (Int × Int)} {t : Int} {b : Option Int} (s : Sc J t A b) : A.length ≤ J.length := by
  obtain ⟨B, rfl, _⟩ := s
  simp
theorem runs2_v {c : Cl} {r : Ru} (ok : RuOk r) {ms : List Mt} (hm : Meets 0 ms) (hn : endOf 0 ms ≤ 70) (hz : ms.length ≤ 1000) {w : Bool} : Gives 8 (D__law_runs_2 c) [ruD r, .lst (ms.map mtD), .str (wd w)] (.new (.lst ((jnd r w ms).map seD))) := by
  obtain ⟨g, hS⟩ := painted2_v (c := c) ok hm hn (w := w)
  have hS' := flat_up ok hn hS
  have hl := jnd_len (r := r) (w := w) (ms := ms)
  obtain ⟨_, p⟩ := g.elim
  simp at p
  generalize jnd r w ms = J at hS hS' hl p
  obtain ⟨ρ', e, A, b, s6, s7, rfl, _, _, hA⟩ := forL_inv (U := uTup 2 (usCons (uName 6) (usCons (uName 7) usNil))) (B := D__law_runs_2_b1 c) (ds := enumD 0 (pnt (pJ J))) (fun i ρ => ∃ (A : List (Int × Int)) (b : Option Int) (s6 s7 : Slot), ρ = [.val (ruD r), .val (.lst (ms.map mtD)), .val (.str (wd w)), .val (.lst (pnt (pJ J))), .own (.lst (A.map seD)), .val (opD b), s6, s7] ∧ s6.free = true ∧ s7.free = true ∧ Sc J i A b) (fun i hi ρ hw => by
    obtain ⟨A, b, s6, s7, rfl, f6, f7, hA⟩ := hw
    rw [enum_pnt hi]
    have zl := sc_len hA
    have z : A.length < 16777216 := by omega
    have ei : ((i + 1 : Nat) : Int) = (i : Int) + 1 := rfl
    rw [ei]
    by_cases hp : (i : Int) ∈ flat J
    · have hp' : pJ J i = true := by simp [pJ, hp]
      cases b with
      | none => exact ⟨_, .inl (by simp [D__law_runs_2_b1, f6, f7, hp', opD] <;> rfl), A, some (i : Int), .val (.int (i : Nat)), .val (.bl true), by simp [opD], rfl, rfl, hA.op hS' hp⟩
      | some v => exact ⟨_, .inl (by simp [D__law_runs_2_b1, f6, f7, hp', opD] <;> rfl), A, some v, .val (.int (i : Nat)), .val (.bl true), by simp [opD], rfl, rfl, hA.stay hS' hp⟩
    · have hp' : pJ J i = false := by simp [pJ, hp]
      cases b with
      | none => exact ⟨_, .inl (by simp [D__law_runs_2_b1, f6, f7, hp', opD] <;> rfl), A, none, .val (.int (i : Nat)), .val (.bl false), by simp [opD], rfl, rfl, hA.skip hS' hp⟩
      | some v => exact ⟨_, .inl (by simp [D__law_runs_2_b1, f6, f7, hp', opD, z] <;> rfl), A ++ [(v, (i : Int))], none, .val (.int (i : Nat)), .val (.bl false), by simp [opD, seD], rfl, rfl, (hA.shut hS' hp).1⟩) (ρ := [.val (ruD r), .val (.lst (ms.map mtD)), .val (.str (wd w)), .val (.lst (pnt (pJ J))), .own (.lst []), .val .non, .none, .none]) ⟨[], none, .none, .none, rfl, rfl, rfl, Sc.first hS'⟩
  have h80 : (enumD 0 (pnt (pJ J))).length = 80 := by rw [enumD_len, pnt_len]
  rw [h80] at hA
  obtain ⟨rfl, rfl⟩ := hA.last hS' (by show (78 : Int) < ((80 : Nat) : Int); omega)
  simp [Gives, D__law_runs_2, p, dEnum2, e]
theorem cut_step {r : Ru} {w : Bool} {A : List (Int × Int)} {x : Int × Int} : (((A ++ [x]).filterMap (cutOf r)).map fun x => ((x.1, x.2, w) : Bk)) = ((A.filterMap (cutOf r)).map fun x => ((x.1, x.2, w) : Bk)) ++ (cutOf r x).toList.map fun x => (x.1, x.2, w) := by
  rw [List.filterMap_append, List.map_append]
  cases e : cutOf r x <;> simp [e]
theorem blocks2_v {c : Cl} {r : Ru} (ok : RuOk r) {ms : List Mt} (hm : Meets 0 ms) (hn : endOf 0 ms ≤ 70) (hz : ms.length ≤ 1000) {w : Bool} : Gives 10 (D__law_blocks c) [ruD r, .lst (ms.map mtD), .str (wd w)] (.new (.lst ((blk r w ms).map bkD))) := by
  obtain ⟨g, hS⟩ := painted2_v (c := c) ok hm hn (w := w)
  have hS' := flat_up ok hn hS
  have hl := jnd_len (r := r) (w := w) (ms := ms)
  obtain ⟨_, p⟩ := g.elim
  simp at p
  unfold blk
  generalize jnd r w ms = J at hS hS' hl p
  obtain ⟨ρ', e, A, b, s6, s7, s8, s9, rfl, _, _, _, _, hA⟩ := forL_inv (U := uTup 2 (usCons (uName 6) (usCons (uName 7) usNil))) (B := D__law_blocks_b1 c) (ds := enumD 0 (pnt (pJ J))) (fun i ρ => ∃ (A : List (Int × Int)) (b : Option Int) (s6 s7 s8 s9 : Slot), ρ = [.val (ruD r), .val (.lst (ms.map mtD)), .val (.str (wd w)), .val (.lst (pnt (pJ J))), .own (.lst (((A.filterMap (cutOf r)).map fun x => ((x.1, x.2, w) : Bk)).map bkD)), .val (opD b), s6, s7, s8, s9] ∧ s6.free = true ∧ s7.free = true ∧ s8.free = true ∧ s9.free = true ∧ Sc J i A b) (fun i hi ρ hw => by
    obtain ⟨A, b, s6, s7, s8, s9, rfl, f6, f7, f8, f9, hA⟩ := hw
    rw [enum_pnt hi]
    have zl := sc_len hA
    have zl2 := List.length_filterMap_le (cutOf r) A
    have ei : ((i + 1 : Nat) : Int) = (i : Int) + 1 := rfl
    rw [ei]
    by_cases hp : (i : Int) ∈ flat J
    · have hp' : pJ J i = true := by simp [pJ, hp]
      cases b with
      | none => exact ⟨_, .inl (by simp [D__law_blocks_b1, f6, f7, hp', opD] <;> rfl), A, some (i : Int), .val (.int (i : Nat)), .val (.bl true), s8, s9, by simp [opD], rfl, rfl, f8, f9, hA.op hS' hp⟩
      | some v => exact ⟨_, .inl (by simp [D__law_blocks_b1, f6, f7, hp', opD] <;> rfl), A, some v, .val (.int (i : Nat)), .val (.bl true), s8, s9, by simp [opD], rfl, rfl, f8, f9, hA.stay hS' hp⟩
    · have hp' : pJ J i = false := by simp [pJ, hp]
      cases b with
      | none => exact ⟨_, .inl (by simp [D__law_blocks_b1, f6, f7, hp', opD] <;> rfl), A, none, .val (.int (i : Nat)), .val (.bl false), s8, s9, by simp [opD], rfl, rfl, f8, f9, hA.skip hS' hp⟩
      | some v =>
        obtain ⟨hB, hv⟩ := hA.shut hS' hp
        have cs := cut_step (r := r) (w := w) (A := A) (x := (v, (i : Int)))
        have z : (((A.filterMap (cutOf r)).map fun x => ((x.1, x.2, w) : Bk)).map bkD).length < 16777216 := by simp; omega
        generalize hF : ((A.filterMap (cutOf r)).map fun x => ((x.1, x.2, w) : Bk)) = F at cs z
        cases hh : r.h with
        | none =>
          refine ⟨_, .inl ?_, A ++ [(v, (i : Int))], none, .val (.int (i : Nat)), .val (.bl false), .val (.int v), .val (.int (i : Nat)), rfl, rfl, rfl, rfl, rfl, hB⟩
          rw [cs]
          by_cases h : (i : Int) - v < r.l
          · have h' : ¬ r.l ≤ (i : Int) - v := by omega
            simp [D__law_blocks_b1, f6, f7, f8, f9, hp', opD, ruD, hoD, hh, h', cutOf, h]
          · have h' : r.l ≤ (i : Int) - v := by omega
            simp at z
            simp [D__law_blocks_b1, f6, f7, f8, f9, hp', opD, ruD, hoD, hh, h', cutOf, h, hv, z, bkD]
        | some y =>
          refine ⟨_, .inl ?_, A ++ [(v, (i : Int))], none, .val (.int (i : Nat)), .val (.bl false), .val (.int (mx v y.1)), .val (.int (mn i y.2)), rfl, rfl, rfl, rfl, rfl, hB⟩
          rw [cs]
          simp at z
          by_cases h2 : mx v y.1 < mn i y.2
          · have h3 := h2
            unfold mx mn at h3
            by_cases h : (i : Int) - v < r.l
            · have h' : ¬ r.l ≤ (i : Int) - v := by omega
              simp [D__law_blocks_b1, f6, f7, f8, f9, hp', opD, ruD, hoD, hh, h', cutOf, h, h2, h3, mx, mn]
            · have h' : r.l ≤ (i : Int) - v := by omega
              simp [D__law_blocks_b1, f6, f7, f8, f9, hp', opD, ruD, hoD, hh, h', cutOf, h, h2, h3, mx, mn, z, bkD]
          · have h3 := h2
            unfold mx mn at h3
            by_cases h : (i : Int) - v < r.l
            · have h' : ¬ r.l ≤ (i : Int) - v := by omega
              simp [D__law_blocks_b1, f6, f7, f8, f9, hp', opD, ruD, hoD, hh, h', cutOf, h, h2, h3, mx, mn]
            · have h' : r.l ≤ (i : Int) - v := by omega
              simp [D__law_blocks_b1, f6, f7, f8, f9, hp', opD, ruD, hoD, hh, h', cutOf, h, h2, h3, mx, mn]) (ρ := [.val (ruD r), .val (.lst (ms.map mtD)), .val (.str (wd w)), .val (.lst (pnt (pJ J))), .own (.lst []), .val .non, .none, .none, .none, .none]) ⟨[], none, .none, .none, .none, .none, rfl, rfl, rfl, rfl, rfl, Sc.first hS'⟩
  have h80 : (enumD 0 (pnt (pJ J))).length = 80 := by rw [enumD_len, pnt_len]
  rw [h80] at hA
  obtain ⟨rfl, rfl⟩ := hA.last hS' (by show (78 : Int) < ((80 : Nat) : Int); omega)
  simp [Gives, D__law_blocks, p, dEnum2, e]
theorem show2_v {c : Cl} {r : Ru} (ok : RuOk r) {ms : List Mt} (hm : Meets 0 ms) (hn : endOf 0 ms ≤ 70) (hz : ms.length ≤ 1000) : Gives 2 (D__law_show_2 c) [ruD r, .lst (ms.map mtD)] (.val (.tup ((srt bkP (showL r ms)).map bkD))) := by
  obtain ⟨_, p1⟩ := (blocks2_v (c := c) ok hm hn hz (w := false)).elim
  obtain ⟨_, p2⟩ := (blocks2_v (c := c) ok hm hn hz (w := true)).elim
  have l1 := blk_len (r := r) (w := false) (ms := ms)
  have l2 := blk_len (r := r) (w := true) (ms := ms)
  have i3 := bkO.sorted (showL r ms)
  have zs : (srt bkP (showL r ms)).length = (showL r ms).length := (srt_perm (key := bkP) (showL r ms)).length_eq
  have z1 : (blk r false ms).length + (blk r true ms).length ≤ 16777216 := by omega
  have z2 : (srt bkP (showL r ms)).length ≤ 16777216 := by rw [zs, showL, List.length_append]; omega
  rw [showL] at i3 z2 ⊢
  rw [List.map_append] at i3
  simp at p1 p2
  simp [Gives, D__law_show_2, p1, p2, z1, i3, z2]
end DL
set_option linter.all false
set_option maxRecDepth 100000
set_option maxHeartbeats 1000000
namespace DL
open PySem PySem.Spec PyProof.Rows L2 DD
theorem forL_or {U : Tg} {B : En → SR} (W : En → Prop) (R : X → En → Prop) : ∀ {ds : List D}, (∀ d ∈ ds, ∀ ρ, W ρ → (∃ ρ2, stepL U B d ρ = .nx ρ2 ∧ W ρ2) ∨ ∃ x ρ2, stepL U B d ρ = .rt x ρ2 ∧ R x ρ2) → ∀ {ρ : En}, W ρ → (∃ ρ', forL U B ds ρ = .nx ρ' ∧ W ρ') ∨ ∃ x ρ', forL U B ds ρ = .rt x ρ' ∧ R x ρ'
  | [], _, ρ, h0 => .inl ⟨ρ, rfl, h0⟩
  | d :: ds, h, ρ, h0 => by
    unfold forL
    rcases h d (by simp) ρ h0 with ⟨ρ2, e, w⟩ | ⟨x, ρ2, e, w⟩
    · unfold stepL at e
      cases e1 : U d ρ with
      | none => rw [e1] at e; cases e
      | some ρ1 =>
        rw [e1] at e
        have e : B ρ1 = .nx ρ2 := e
        simp only [e]
        exact forL_or W R (fun d hd => h d (by simp [hd])) w
    · unfold stepL at e
      cases e1 : U d ρ with
      | none => rw [e1] at e; cases e
      | some ρ1 =>
        rw [e1] at e
        have e : B ρ1 = .rt x ρ2 := e
        simp only [e]
        exact .inr ⟨x, ρ2, rfl, w⟩
/-- a row that a def hands back: as a value, new, or none at all -/
def RowX (f : Fr) (x : X) : Prop := (∃ ms, Row f ms ∧ (x = .val (.lst (ms.map mtD)) ∨ x = .new (.lst (ms.map mtD)))) ∨ x = .val .non
theorem drawn_step {c : Cl} {f : Fr} {lo hi : Int} (ok : GrOk lo hi f) (hn : f.n ≤ 70) {d : D} {b : Int × Int × Int} {s2 s3 : Slot} (f2 : s2.free = true) (f3 : s3.free = true) : (∃ ρ2, stepL (uName 2) (D__law_drawn_b1 c) d [.bor (box3 b), .val (grD f), s2, s3] = .nx ρ2 ∧ ∃ (b' : Int × Int × Int) (t2 t3 : Slot), ρ2 = [.bor (box3 b'), .val (grD f), t2, t3] ∧ t2.free = true ∧ t3.free = true) ∨ ∃ x ρ2, stepL (uName 2) (D__law_drawn_b1 c) d [.bor (box3 b), .val (grD f), s2, s3] = .rt x ρ2 ∧ ∃ (b' : Int × Int × Int) (t2 t3 : Slot) (y : X), ρ2 = [.bor (box3 b'), .val (grD f), t2, t3] ∧ fin (.rt x ρ2) = .ok y ρ2 ∧ RowX f y := by
  obtain ⟨ms, b1, g1, hr⟩ := meetings_gives (c := c) (f := f) b ok.i.s ok.i.n (by omega)
  obtain ⟨_, p1, q1⟩ := g1.elim
  simp at p1
  cases hm : f.m with
  | none =>
    obtain ⟨v, g2⟩ := g_lets_v (c := c) ok.i.z hr (by omega)
    obtain ⟨_, p2⟩ := g2.elim
    simp at p2
    have e : (grD f) = .tup [.int f.n, .int f.s, .non, .bl f.p, .tup (f.ks.map knD)] := by simp [grD, hm, moD]
    rw [e] at p1 p2 ⊢
    cases v with
    | false => exact .inl ⟨_, by simp [D__law_drawn_b1, f2, f3, p1, q1, p2] <;> rfl, b1, .val d, .val (.lst (ms.map mtD)), rfl, rfl, rfl⟩
    | true => exact .inr ⟨.val (.lst (ms.map mtD)), _, by simp [D__law_drawn_b1, f2, f3, p1, q1, p2] <;> rfl, b1, .val d, .val (.lst (ms.map mtD)), .val (.lst (ms.map mtD)), rfl, rfl, .inl ⟨ms, hr, .inl rfl⟩⟩
  | some i =>
    have hi0 := ok.i.m i hm
    have hr2 := hr.take i.toNat
    obtain ⟨v, g2⟩ := g_lets_v (c := c) ok.i.z hr2 (by omega)
    obtain ⟨_, p2⟩ := g2.elim
    have ct : cutD (ms.map mtD) none (some i) = (ms.take i.toNat).map mtD := by
      have := cutD_to (xs := ms.map mtD) (k := i.toNat)
      rw [show ((i.toNat : Nat) : Int) = i by omega] at this
      rw [this, List.map_take]
    have e : (grD f) = .tup [.int f.n, .int f.s, .int i, .bl f.p, .tup (f.ks.map knD)] := by simp [grD, hm, moD]
    rw [e] at p1 p2 ⊢
    generalize hT : (ms.take i.toNat).map mtD = T at ct p2
    simp at p2
    cases v with
    | false => exact .inl ⟨_, by simp [D__law_drawn_b1, f2, f3, p1, q1, ct, p2] <;> rfl, b1, .val d, .val (.lst T), rfl, rfl, rfl⟩
    | true => exact .inr ⟨.val (.lst T), _, by simp [D__law_drawn_b1, f2, f3, p1, q1, ct, p2] <;> rfl, b1, .val d, .val (.lst T), .val (.lst T), rfl, rfl, .inl ⟨_, hr2, .inl (by rw [hT])⟩⟩
theorem drawn_gives {c : Cl} {f : Fr} {lo hi : Int} (ok : GrOk lo hi f) (hn : f.n ≤ 70) (b : Int × Int × Int) : ∃ (x : X) (b' : Int × Int × Int), GivesB 4 (D__law_drawn c) (box3 b) [grD f] x (box3 b') ∧ RowX f x := by
  rcases forL_or (U := uName 2) (B := D__law_drawn_b1 c) (fun ρ => ∃ (b : Int × Int × Int) (s2 s3 : Slot), ρ = [.bor (box3 b), .val (grD f), s2, s3] ∧ s2.free = true ∧ s3.free = true) (fun x ρ => ∃ (b' : Int × Int × Int) (t2 t3 : Slot) (y : X), ρ = [.bor (box3 b'), .val (grD f), t2, t3] ∧ fin (.rt x ρ) = .ok y ρ ∧ RowX f y) (ds := (List.range 12).map fun i => D.int (i : Nat)) (fun d _ ρ hw => by
    obtain ⟨b, s2, s3, rfl, f2, f3⟩ := hw
    exact drawn_step ok hn f2 f3) (ρ := [.bor (box3 b), .val (grD f), .none, .none]) ⟨b, .none, .none, rfl, rfl, rfl⟩ with ⟨ρ', e, b', s2, s3, rfl, f2, f3⟩ | ⟨x, ρ', e, b', t2, t3, y, rfl, ey, hy⟩
  · refine ⟨.val .non, b', ?_, .inr rfl⟩
    generalize hR : ((List.range 12).map fun i => D.int (i : Nat)) = R at e
    have hR' : ((List.range 12).map fun i => D.int (0 + (i : Nat))) = R := by rw [← hR]; simp
    have e2 : D__law_drawn c [.bor (box3 b), .val (grD f), .none, .none] = .rt (.val .non) [.bor (box3 b'), .val (grD f), s2, s3] := by
      show (sSeq (sFor (dRng1 (dC (.int 12))) (uName 2) (D__law_drawn_b1 c)) (sRet (dC .non))) _ = _
      have r : dRng1 (dC (.int 12)) [.bor (box3 b), .val (grD f), .none, .none] = .ok R [.bor (box3 b), .val (grD f), .none, .none] := by rw [← hR']; rfl
      rw [q_sSeq, q_sFor, r]
      simp [e]
    show resB (fin (D__law_drawn c [.bor (box3 b), .val (grD f), .none, .none])) = _
    rw [e2]
    rfl
  · refine ⟨y, b', ?_, hy⟩
    generalize hR : ((List.range 12).map fun i => D.int (i : Nat)) = R at e
    have hR' : ((List.range 12).map fun i => D.int (0 + (i : Nat))) = R := by rw [← hR]; simp
    have e2 : D__law_drawn c [.bor (box3 b), .val (grD f), .none, .none] = .rt x [.bor (box3 b'), .val (grD f), t2, t3] := by
      show (sSeq (sFor (dRng1 (dC (.int 12))) (uName 2) (D__law_drawn_b1 c)) (sRet (dC .non))) _ = _
      have r : dRng1 (dC (.int 12)) [.bor (box3 b), .val (grD f), .none, .none] = .ok R [.bor (box3 b), .val (grD f), .none, .none] := by rw [← hR']; rfl
      rw [q_sSeq, q_sFor, r]
      simp [e]
    show resB (fin (D__law_drawn c [.bor (box3 b), .val (grD f), .none, .none])) = _
    rw [e2, ey]
    rfl
end DL
set_option linter.all false
set_option maxRecDepth 100000
set_option maxHeartbeats 1000000
namespace DL
open PySem PySem.Spec PyProof.Rows L2 DD
abbrev Lk := Ru × List Bk
def lkD (l : Lk) : D := .tup [ruD l.1, .tup (l.2.map bkD)]
def lvD (c : Cl) (l : Lk) : D := .tup [rvD c l.1, .tup (l.2.map bkD)]
structure LkOk (l : Lk) : Prop where
  r : RuOk l.1
  v : VwOk l.2
theorem row_len {f : Fr} {ms : List Mt} (h : Row f ms) (hn : f.n ≤ 50) : ms.length ≤ 50 := by
  have := meets_len h.m
  have := h.e
  omega
theorem looks_step {c : Cl} {f : Fr} {lo hi : Int} (ok : GrOk lo hi f) (hn : f.n ≤ 24) {day : List Mt} (hd : Row f day) {k : D} {v2 v3 : Slot} (hv : v3 = .val (.lst (day.map mtD)) ∨ v3 = .own (.lst (day.map mtD))) {b : Int × Int × Int} {F : List Lk} (hF : F.length < 1000) {s4 s6 s7 : Slot} (f4 : s4.free = true) (f6 : s6.free = true) (f7 : s7.free = true) : ∃ (b' : Int × Int × Int) (l : Lk) (v3' t6 t7 : Slot), (v3' = .val (.lst (day.map mtD)) ∨ v3' = .own (.lst (day.map mtD))) ∧ stepL (uName 4) (D__law_looks_b1 c) k [.bor (box3 b), .val (grD f), v2, v3, s4, .own (.lst (F.map lkD)), s6, s7] = .nx [.bor (box3 b'), .val (grD f), v2, v3', .val k, .own (.lst ((F ++ [l]).map lkD)), t6, t7] ∧ t6.free = true ∧ t7.free = true ∧ LkOk l := by
  obtain ⟨r, b1, g1, hr⟩ := rule2_gives (c := c) b (top := f.n) ok.i.n hn
  obtain ⟨y, b2, g2, y0, y1⟩ := take_gives (c := c) b1 (m := 6) (by omega) (by omega)
  obtain ⟨_, p1, q1⟩ := g1.elim
  obtain ⟨_, p2, q2⟩ := g2.elim
  simp at p1 p2
  have hz : F.length < 16777216 := by omega
  have e0 : ∀ {ρ : En}, True := fun {_} => trivial
  have sh : ∀ ms, Row f ms → (∃ ρ, fin (D__law_show_2 c [.val (ruD r), .val (.lst (ms.map mtD))]) = .ok (.val (.tup ((srt bkP (showL r ms)).map bkD))) ρ) ∧ LkOk (r, srt bkP (showL r ms)) := fun ms hm => by
    have he := hm.e
    have hl := row_len hm (by omega)
    obtain ⟨ρ, e⟩ := (show2_v (c := c) hr hm.m (by omega) (by omega)).elim
    exact ⟨⟨ρ, by simpa using e⟩, hr, shown_ok (c := c) hr hm.m he (by omega) hl⟩
  by_cases hy : y = 0
  · subst hy
    obtain ⟨x, b3, g3, hx⟩ := drawn_gives (c := c) ok (by omega) b2
    obtain ⟨_, p3, q3⟩ := g3.elim
    rcases hx with ⟨ms, hm, hx⟩ | hx
    · obtain ⟨⟨_, ps⟩, hl⟩ := sh ms hm
      rcases hx with rfl | rfl
      · simp at p3
        refine ⟨b3, (r, srt bkP (showL r ms)), v3, .val (ruD r), .val (.lst (ms.map mtD)), hv, ?_, rfl, rfl, hl⟩
        simp [grD] at p1 p3 ps ⊢
        rcases hv with rfl | rfl <;> simp [D__law_looks_b1, f4, f6, f7, p1, q1, p2, q2, p3, q3, ps, hz, lkD]
      · simp at p3
        refine ⟨b3, (r, srt bkP (showL r ms)), v3, .val (ruD r), .val (.lst (ms.map mtD)), hv, ?_, rfl, rfl, hl⟩
        simp [grD] at p1 p3 ps ⊢
        rcases hv with rfl | rfl <;> simp [D__law_looks_b1, f4, f6, f7, p1, q1, p2, q2, p3, q3, ps, hz, lkD]
    · obtain ⟨⟨_, ps⟩, hl⟩ := sh day hd
      subst hx
      simp at p3
      refine ⟨b3, (r, srt bkP (showL r day)), .val (.lst (day.map mtD)), .val (ruD r), .val .non, .inl rfl, ?_, rfl, rfl, hl⟩
      simp [grD] at p1 p3 ps ⊢
      rcases hv with rfl | rfl <;> simp [D__law_looks_b1, f4, f6, f7, p1, q1, p2, q2, p3, q3, ps, hz, lkD]
  · obtain ⟨⟨_, ps⟩, hl⟩ := sh day hd
    refine ⟨b2, (r, srt bkP (showL r day)), .val (.lst (day.map mtD)), .val (ruD r), .val .non, .inl rfl, ?_, rfl, rfl, hl⟩
    simp [grD] at p1 ps ⊢
    rcases hv with rfl | rfl <;> simp [D__law_looks_b1, f4, f6, f7, p1, q1, p2, q2, hy, ps, hz, lkD]
theorem looks_gives {c : Cl} {f : Fr} {lo hi : Int} (ok : GrOk lo hi f) (hn : f.n ≤ 24) (b : Int × Int × Int) {N : Int} (h0 : 0 ≤ N) (h1 : N ≤ 100) : ∃ (Ls : List Lk) (b' : Int × Int × Int), GivesB 8 (D__law_looks c) (box3 b) [grD f, .int N] (.new (.lst (Ls.map lkD))) (box3 b') ∧ (∀ l ∈ Ls, LkOk l) ∧ Ls.length ≤ N.toNat := by
  obtain ⟨x, b1, g1, hx⟩ := drawn_gives (c := c) ok (by omega) b
  obtain ⟨day, hd, hdx⟩ : ∃ day, Row f day ∧ ((x = .val .non ∧ day = []) ∨ x = .val (.lst (day.map mtD)) ∨ x = .new (.lst (day.map mtD))) := by
    rcases hx with ⟨ms, hm, hx⟩ | hx
    · exact ⟨ms, hm, .inr hx⟩
    · exact ⟨[], ⟨trivial, by show (0 : Int) ≤ f.n; have := ok.i.n; omega, fun m h => by simp at h⟩, .inl ⟨hx, rfl⟩⟩
  obtain ⟨_, p1, q1⟩ := g1.elim
  have run : ∀ v3 : Slot, (v3 = .val (.lst (day.map mtD)) ∨ v3 = .own (.lst (day.map mtD))) → ∃ (b' : Int × Int × Int) (Ls : List Lk) (v3' s4 s6 s7 : Slot), forL (uName 4) (D__law_looks_b1 c) ((List.range N.toNat).map fun i => D.int (i : Nat)) [.bor (box3 b1), .val (grD f), .val (.int N), v3, .none, .own (.lst []), .none, .none] = .nx [.bor (box3 b'), .val (grD f), .val (.int N), v3', s4, .own (.lst (Ls.map lkD)), s6, s7] ∧ Ls.length ≤ N.toNat ∧ ∀ l ∈ Ls, LkOk l := fun v3 hv => by
   obtain ⟨ρ', e, b', Ls, v3', s4, s6, s7, hv', rfl, _, _, _, hl, hL⟩ := forR_inv (U := uName 4) (B := D__law_looks_b1 c) (n := N.toNat) (fun i ρ => ∃ (b : Int × Int × Int) (Ls : List Lk) (v3 s4 s6 s7 : Slot), (v3 = .val (.lst (day.map mtD)) ∨ v3 = .own (.lst (day.map mtD))) ∧ ρ = [.bor (box3 b), .val (grD f), .val (.int N), v3, s4, .own (.lst (Ls.map lkD)), s6, s7] ∧ s4.free = true ∧ s6.free = true ∧ s7.free = true ∧ Ls.length ≤ i ∧ ∀ l ∈ Ls, LkOk l) (fun i hi ρ hw => by
    obtain ⟨b, Ls, v3, s4, s6, s7, hv, rfl, f4, f6, f7, hl, hL⟩ := hw
    obtain ⟨b', l, v3', t6, t7, hv', e, g6, g7, hk⟩ := looks_step (c := c) ok hn hd (k := .int (i : Nat)) (v2 := .val (.int N)) hv (b := b) (F := Ls) (by omega) f4 f6 f7
    refine ⟨_, .inl e, b', Ls ++ [l], v3', .val (.int (i : Nat)), t6, t7, hv', rfl, rfl, g6, g7, by simp; omega, fun z hz => ?_⟩
    rcases List.mem_append.mp hz with h | h
    · exact hL z h
    · obtain rfl := List.mem_singleton.mp h
      exact hk) (ρ := [.bor (box3 b1), .val (grD f), .val (.int N), v3, .none, .own (.lst []), .none, .none]) ⟨b1, [], v3, .none, .none, .none, hv, rfl, rfl, rfl, rfl, Nat.le_refl _, fun l h => by simp at h⟩
   exact ⟨b', Ls, v3', s4, s6, s7, e, hl, hL⟩
  have r1 : -4611686018427387904 ≤ N := by omega
  have r2 : N < 4611686018427387904 := by omega
  rcases hdx with ⟨rfl, rfl⟩ | rfl | rfl
  · obtain ⟨b', Ls, v3', s4, s6, s7, e, hl, hL⟩ := run _ (.inr rfl)
    refine ⟨Ls, b', ?_, hL, hl⟩
    simp at p1 e
    simp [GivesB, D__law_looks, p1, q1, r1, r2, e]
  · obtain ⟨b', Ls, v3', s4, s6, s7, e, hl, hL⟩ := run _ (.inl rfl)
    refine ⟨Ls, b', ?_, hL, hl⟩
    simp at p1 e
    simp [GivesB, D__law_looks, p1, q1, r1, r2, e]
  · obtain ⟨b', Ls, v3', s4, s6, s7, e, hl, hL⟩ := run _ (.inl rfl)
    refine ⟨Ls, b', ?_, hL, hl⟩
    simp at p1 e
    simp [GivesB, D__law_looks, p1, q1, r1, r2, e]
theorem made_rule_v {c : Cl} {r : Ru} (ok : RuOk r) : Gives 1 (D__law_made_rule c) [ruD r] (.new (ruO c r)) := by
  obtain ⟨_, p, q⟩ := (rule_init (c := c) ok.ri).elim
  simp at p
  simp [Gives, D__law_made_rule, ruD, p, q]
end DL
set_option linter.all false
set_option maxRecDepth 100000
set_option maxHeartbeats 1000000
namespace DL
open PySem PySem.Spec PyProof.Rows L2 DD
@[simp] theorem q_aStar {A : En → Res X} {T : En → Res (List X)} {ρ : En} : aStar A T ρ = ((A ρ).bind fun a ρ1 => match itemsX ρ1 a with
  | some ds => (T ρ1).bind fun xs ρ2 => .ok (ds.map X.val ++ xs) ρ2
  | none => .stuck) := rfl
@[simp] theorem w_items_v {ρ : En} {d : D} : itemsX ρ (.val d) = d.items := rfl
@[simp] theorem w_items_n {ρ : En} {o : O} : itemsX ρ (.new o) = o.d.items := rfl
theorem frame_of_v {c : Cl} {f : Fr} (ok : FrIn f) : Gives 1 (D__law_frame_of c) [grD f] (.new (frO c f)) := by
  obtain ⟨_, p, q⟩ := (frame_init (c := c) ok (.inr rfl)).elim
  simp at p
  simp [Gives, D__law_frame_of, grD, p, q]
theorem looks_of_v {c : Cl} {Ls : List Lk} (h : ∀ l ∈ Ls, LkOk l) (hz : Ls.length ≤ 1000) : Gives 3 (D__law_looks_of c) [.lst (Ls.map lkD)] (.new (.lst (Ls.map (lvD c)))) := by
  have L := lc_fm (vs := [1, 2]) (U := uTup 2 (usCons (uName 1) (usCons (uName 2) usNil))) (T := tdYes) (A := dTup (aCons (dCall 1 1 (D__law_made_rule c) (aCons (dVar 1) aNil)) (aCons (dVar 2) aNil))) (enc := lkD) (fun l => some (lvD c l)) (ρ := [.val (.lst (Ls.map lkD)), .none, .none]) (L := Ls) (acc := []) (fun l hl ds acc ha => by
    have ha' : acc.length < 16777216 := by omega
    obtain ⟨_, p⟩ := (made_rule_v (c := c) (h l hl).r).elim
    simp at p
    simp [lcL, lkD, p, ha', lvD, ruO, rvD]) (by simp; omega)
  have e : Ls.filterMap (fun l => some (lvD c l)) = Ls.map (lvD c) := by simp
  rw [e] at L
  simp at L
  simp [Gives, D__law_looks_of, lcAll, L]
theorem is_look_v {c : Cl} {l : Lk} (h : LkOk l) : Gives 3 (D_is_look c) [lvD c l] (.val (.bl true)) := by
  obtain ⟨_, p⟩ := (is_view_v (c := c) h.v).elim
  simp at p
  simp [Gives, D_is_look, lvD, rvD, anyK, p]
theorem check_looks_v {c : Cl} {Ls : List Lk} (h : ∀ l ∈ Ls, LkOk l) {d : D} (hd : d = .lst (Ls.map (lvD c)) ∨ d = .tup (Ls.map (lvD c))) : Gives 3 (D_check_looks c) [d] (.val .non) := by
  have run : ∀ d : D, ∃ ρ', forL (uTup 2 (usCons (uName 1) (usCons (uName 2) usNil))) (D_check_looks_b1 c) (enumD 0 (Ls.map (lvD c))) [.val d, .none, .none] = .nx ρ' := fun d => by
    obtain ⟨ρ', e, _⟩ := forL_inv (U := uTup 2 (usCons (uName 1) (usCons (uName 2) usNil))) (B := D_check_looks_b1 c) (ds := enumD 0 (Ls.map (lvD c))) (fun i ρ => ∃ s1 s2 : Slot, ρ = [.val d, s1, s2] ∧ s1.free = true ∧ s2.free = true) (fun i hi ρ hw => by
      obtain ⟨s1, s2, rfl, f1, f2⟩ := hw
      have hi2 : i < Ls.length := by rw [enumD_len, List.length_map] at hi; exact hi
      have e := enumD_get (ds := Ls.map (lvD c)) (k := 0) (i := i)
      rw [List.getElem?_eq_getElem hi] at e
      have e2 : (Ls.map (lvD c))[i]? = some (lvD c Ls[i]) := by simp [hi2]
      rw [e2] at e
      have e3 : (enumD 0 (Ls.map (lvD c)))[i] = .tup [.int (i : Nat), lvD c Ls[i]] := by simpa using e
      rw [e3]
      obtain ⟨_, p⟩ := (is_look_v (c := c) (h _ (List.getElem_mem hi2))).elim
      simp at p
      exact ⟨_, .inl (by simp [D_check_looks_b1, f1, f2, p] <;> rfl), .val (.int (i : Nat)), .val (lvD c Ls[i]), rfl, rfl, rfl⟩) (ρ := [.val d, .none, .none]) ⟨.none, .none, rfl, rfl, rfl⟩
    exact ⟨ρ', e⟩
  obtain ⟨_, e⟩ := run d
  rcases hd with rfl | rfl
  · obtain ⟨_, p⟩ := (is_sequence_l (c := c) (ds := Ls.map (lvD c))).elim
    simp at p
    simp [Gives, D_check_looks, p, dEnum2, e]
  · obtain ⟨_, p⟩ := (is_sequence_t (c := c) (ds := Ls.map (lvD c))).elim
    simp at p
    simp [Gives, D_check_looks, p, dEnum2, e]
/-- a tally: how many spans are behind, the open one -/
abbrev Ty := Nat × Option (Int × Int)
def tyD (t : Ty) : D := .tup [.int t.1, cuD t.2]
def tpD (p : Ty × Ty) : D := .tup [tyD p.1, tyD p.2]
/-- a standing -/
structure St where
  g : Str
  r : Int
  m : Int
  k : List (Ty × Ty)
def stD (s : St) : D := .tup [.str s.g, .int s.r, .int s.m, .tup (s.k.map tpD)]
theorem first_v {c : Cl} {Ls : List Lk} (hz : Ls.length ≤ 1000) {d : D} (hd : d = .lst (Ls.map (lvD c)) ∨ d = .tup (Ls.map (lvD c))) : Gives 2 (D_first_standing c) [d] (.val (stD ⟨"", 0, 0, Ls.map fun _ => ((0, none), (0, none))⟩)) := by
  have L := fun d : D => lc_fm (vs := [1]) (U := uName 1) (T := tdYes) (A := dTup (aCons (dC (.tup [(.int 0), .non])) (aCons (dC (.tup [(.int 0), .non])) aNil))) (enc := lvD c) (fun l => some (tpD ((0, none), (0, none)))) (ρ := [.val d, .none]) (L := Ls) (acc := []) (fun l hl ds acc ha => by
    have ha' : acc.length < 16777216 := by omega
    simp [lcL, ha', tpD, tyD, cuD]) (by simp; omega)
  have e : Ls.filterMap (fun l => some (tpD ((0, none), (0, none)))) = Ls.map (fun _ => tpD ((0, none), (0, none))) := by simp
  have L1 := L d
  rw [e] at L1
  have hz' : Ls.length ≤ 16777216 := by omega
  rcases hd with rfl | rfl
  · simp at L1
    simp [Gives, D_first_standing, lcAll, L1, hz', stD, Function.comp_def]
  · simp at L1
    simp [Gives, D_first_standing, lcAll, L1, hz', stD, Function.comp_def]
theorem begun_v {c : Cl} {f : D} {Ls : List Lk} (h : ∀ l ∈ Ls, LkOk l) (hz : Ls.length ≤ 1000) {d : D} (hd : d = .lst (Ls.map (lvD c)) ∨ d = .tup (Ls.map (lvD c))) : Gives 2 (D_begun c) [f, d] (.val (stD ⟨"", 0, 0, Ls.map fun _ => ((0, none), (0, none))⟩)) := by
  obtain ⟨_, p⟩ := (check_looks_v (c := c) h hd).elim
  obtain ⟨_, q⟩ := (first_v (c := c) hz hd).elim
  simp at p q
  simp [Gives, D_begun, p, q]
end DL
set_option linter.all false
set_option maxRecDepth 100000
set_option maxHeartbeats 1000000
namespace DL
open PySem PySem.Spec PyProof.Rows L2 DD
theorem eqB_se {x y : Int × Int} : eqB (seD x) (seD y) = some (decide (x = y)) := by
  have e : eqB (seD x) (seD y) = some (PyData.eqv (.tuple [.int x.1, .int x.2]) (.tuple [.int y.1, .int y.2])) := rfl
  rw [e]
  congr 1
  rw [Bool.eq_iff_iff]
  simp [PyData.eqv, PyData.eqvAll, Prod.ext_iff]
/-- the spans of a word in a view, what kinds a word takes -/
def spn (w : Bool) (L : List Bk) : List (Int × Int) := (L.filter fun b => b.2.2 == w).map fun b => (b.1, b.2.1)
def kns (r : Ru) (w : Bool) : List Bool := [false, true].filter fun p => decide (wordOf r.p p = some w)
def makD (c : Cl) (l : Lk) (w : Bool) : D := .ins c.Maker ["rule", "word", "spans", "kinds"] [rvD c l.1, .str (wd w), .tup ((spn w l.2).map seD), .tup (((kns l.1 w).map wd).map .str)]
def mkO (c : Cl) (l : Lk) (w : Bool) : O := .ins c.Maker ["rule", "word", "spans", "kinds"] [rvD c l.1, .str (wd w), .tup ((spn w l.2).map seD), .tup (((kns l.1 w).map wd).map .str)]
theorem wd_eq {p q : Bool} : (wd p = wd q) = (p = q) := propext ⟨wd_inj, fun h => by rw [h]⟩
theorem spn_len {w : Bool} {L : List Bk} : (spn w L).length ≤ L.length := by
  unfold spn
  rw [List.length_map]
  exact List.length_filter_le _ _
@[simp] theorem nm_rule_word : (Str.ofString "rule" = Str.ofString "word") = False := eq_false (by decide +kernel)
@[simp] theorem nm_rule_spans : (Str.ofString "rule" = Str.ofString "spans") = False := eq_false (by decide +kernel)
@[simp] theorem nm_rule_kinds : (Str.ofString "rule" = Str.ofString "kinds") = False := eq_false (by decide +kernel)
@[simp] theorem nm_word_rule : (Str.ofString "word" = Str.ofString "rule") = False := eq_false (by decide +kernel)
@[simp] theorem nm_word_spans : (Str.ofString "word" = Str.ofString "spans") = False := eq_false (by decide +kernel)
@[simp] theorem nm_word_kinds : (Str.ofString "word" = Str.ofString "kinds") = False := eq_false (by decide +kernel)
@[simp] theorem nm_spans_rule : (Str.ofString "spans" = Str.ofString "rule") = False := eq_false (by decide +kernel)
@[simp] theorem nm_spans_word : (Str.ofString "spans" = Str.ofString "word") = False := eq_false (by decide +kernel)
@[simp] theorem nm_spans_kinds : (Str.ofString "spans" = Str.ofString "kinds") = False := eq_false (by decide +kernel)
@[simp] theorem nm_kinds_rule : (Str.ofString "kinds" = Str.ofString "rule") = False := eq_false (by decide +kernel)
@[simp] theorem nm_kinds_word : (Str.ofString "kinds" = Str.ofString "word") = False := eq_false (by decide +kernel)
@[simp] theorem nm_kinds_spans : (Str.ofString "kinds" = Str.ofString "spans") = False := eq_false (by decide +kernel)
theorem maker_init {c : Cl} {l : Lk} (h : LkOk l) {w : Bool} : GivesB 9 (fun ρ => D_Maker___init__ c ρ) (.ins c.Maker [] []) [lvD c l, .str (wd w)] (.val .non) (mkO c l w) := by
  have L := fun o : O => lc_fm (vs := [6, 7, 8]) (U := uTup 3 (usCons (uName 6) (usCons (uName 7) (usCons (uName 8) usNil)))) (T := dTest (dBin opEq (dVar 8) (dVar 2))) (A := dTup (aCons (dVar 6) (aCons (dVar 7) aNil))) (enc := bkD) (fun b => if b.2.2 = w then some (seD (b.1, b.2.1)) else none) (ρ := [.bor o, .val (lvD c l), .val (.str (wd w)), .val (rvD c l.1), .val (.tup (l.2.map bkD)), .none, .none, .none, .none]) (L := l.2) (acc := []) (fun b hb ds acc ha => by
    have ha' : acc.length < 16777216 := by omega
    by_cases e : b.2.2 = w
    · simp [lcL, bkD, wd_eq, e, ha', seD]
    · simp [lcL, bkD, wd_eq, e]) (by have := h.v.z; simp; omega)
  have e : l.2.filterMap (fun b => if b.2.2 = w then some (seD (b.1, b.2.1)) else none) = (spn w l.2).map seD := by
    unfold spn
    generalize l.2 = V
    induction V with
    | nil => rfl
    | cons b V ih => by_cases e : b.2.2 = w <;> simp [e, ih]
  have hz : (spn w l.2).length ≤ 16777216 := by
    have := spn_len (w := w) (L := l.2)
    have := h.v.z
    omega
  obtain ⟨_, p1⟩ := (word_v (c := c) (r := l.1) (b := false)).elim
  obtain ⟨_, p2⟩ := (word_v (c := c) (r := l.1) (b := true)).elim
  have q1 := wordD_eq (o := wordOf l.1.p false) (w := w)
  have q2 := wordD_eq (o := wordOf l.1.p true) (w := w)
  have ek : (kns l.1 w) = (if wordOf l.1.p false = some w then [false] else []) ++ (if wordOf l.1.p true = some w then [true] else []) := by
    unfold kns
    by_cases c1 : wordOf l.1.p false = some w <;> by_cases c2 : wordOf l.1.p true = some w <;> simp [c1, c2]
  have L1 := fun o : O => L o
  rw [e] at L1
  unfold mkO
  rw [ek]
  obtain ⟨R, hR⟩ : ∃ R, rvD c l.1 = R := ⟨_, rfl⟩
  have hl : lvD c l = .tup [R, .tup (l.2.map bkD)] := by rw [lvD, hR]
  simp at p1 p2 L1
  rw [hR] at p1 p2 ⊢
  simp only [hl, hR] at L1
  rw [hl]
  by_cases c1 : wordOf l.1.p false = some w <;> by_cases c2 : wordOf l.1.p true = some w <;>
    simp only [c1, c2, decide_true, decide_false] at q1 q2 <;>
    simp [GivesB, D_Maker___init__, lcAll, L1, lcL, p1, p2, q1, q2, c1, c2, hz]
theorem takes_v {c : Cl} {l : Lk} {w p : Bool} : Gives 2 (D_Maker_takes c) [makD c l w, .str (wd p)] (.val (.bl (decide (wordOf l.1.p p = some w)))) := by
  have e := in_strs (s := wd p) (xs := (kns l.1 w).map wd)
  have e2 : (wd p ∈ (kns l.1 w).map wd) ↔ wordOf l.1.p p = some w := by
    rw [List.mem_map]
    constructor
    · rintro ⟨q, hq, e⟩
      obtain rfl := wd_inj e
      unfold kns at hq
      simpa using (List.mem_filter.mp hq).2
    · intro h
      exact ⟨p, by unfold kns; rw [List.mem_filter]; exact ⟨by cases p <;> simp, by simpa using h⟩, rfl⟩
  rw [dec_congr e2] at e
  generalize ((kns l.1 w).map wd).map D.str = K at e
  have em : ∀ K' : List D, K' = ((kns l.1 w).map wd).map D.str → True := fun _ _ => trivial
  have e3 := in_strs (s := wd p) (xs := (kns l.1 w).map wd)
  rw [dec_congr e2] at e3
  simp only [Gives, D_Maker_takes, makD]
  generalize ((kns l.1 w).map wd).map D.str = K2 at e3
  simp [e3]
/-- a tally when a block is laid down -/
def laidT (l : Lk) (w : Bool) (t : Ty) : Option Ty := match t.2 with
  | none => some t
  | some x => match cutOf l.1 x with
    | none => some (t.1, none)
    | some y => if (spn w l.2)[t.1]? = some y then some (t.1 + 1, none) else none
def otD : Option Ty → D
  | none => .non
  | some t => tyD t
theorem laid_v {c : Cl} {l : Lk} {w : Bool} {t : Ty} : Gives 5 (D_Maker_laid c) [makD c l w, tyD t] (.val (otD (laidT l w t))) := by
  obtain ⟨n, o⟩ := t
  cases o with
  | none => simp [Gives, D_Maker_laid, tyD, laidT, otD, cuD]
  | some x =>
    obtain ⟨_, p⟩ := (span_shown_v (c := c) (r := l.1) (x := x)).elim
    simp at p
    cases e : cutOf l.1 x with
    | none =>
      rw [e] at p
      simp [cuD] at p
      simp [Gives, D_Maker_laid, tyD, laidT, otD, cuD, makD, e, seD, p]
    | some y =>
      rw [e] at p
      simp [cuD] at p
      by_cases hn : n < (spn w l.2).length
      · have a : atI ((spn w l.2).map seD) (n : Int) = some (seD (spn w l.2)[n]) := atI_nat (j := n) (by simp [hn])
        have q := eqB_se (x := (spn w l.2)[n]) (y := y)
        have hn' : (n : Int) < ((spn w l.2).length : Int) := by omega
        have e5 : (spn w l.2)[n]? = some (spn w l.2)[n] := List.getElem?_eq_getElem hn
        by_cases hy : (spn w l.2)[n] = y
        · simp only [hy, decide_true] at q a
          simp [Gives, D_Maker_laid, tyD, laidT, otD, cuD, makD, e, seD] at p q a ⊢
          simp [p, q, a, hn, hn', e5, hy]
        · simp only [hy, decide_false] at q
          simp [Gives, D_Maker_laid, tyD, laidT, otD, cuD, makD, e, seD] at p q a ⊢
          simp [p, q, a, hn, hn', e5, hy]
      · have hn' : ¬ (n : Int) < ((spn w l.2).length : Int) := by omega
        have e5 : (spn w l.2)[n]? = none := List.getElem?_eq_none (by omega)
        simp [Gives, D_Maker_laid, tyD, laidT, otD, cuD, makD, e, seD] at p ⊢
        simp [p, hn', e5, hn]
end DL
set_option linter.all false
set_option maxRecDepth 100000
set_option maxHeartbeats 1000000
namespace DL
open PySem PySem.Spec PyProof.Rows L2 DD
@[simp] theorem nm_laid_rule : (Str.ofString "laid" = Str.ofString "rule") = False := eq_false (by decide +kernel)
@[simp] theorem nm_laid_word : (Str.ofString "laid" = Str.ofString "word") = False := eq_false (by decide +kernel)
@[simp] theorem nm_laid_spans : (Str.ofString "laid" = Str.ofString "spans") = False := eq_false (by decide +kernel)
@[simp] theorem nm_laid_kinds : (Str.ofString "laid" = Str.ofString "kinds") = False := eq_false (by decide +kernel)
@[simp] theorem nm_started_rule : (Str.ofString "started" = Str.ofString "rule") = False := eq_false (by decide +kernel)
@[simp] theorem nm_started_word : (Str.ofString "started" = Str.ofString "word") = False := eq_false (by decide +kernel)
@[simp] theorem nm_started_spans : (Str.ofString "started" = Str.ofString "spans") = False := eq_false (by decide +kernel)
@[simp] theorem nm_started_kinds : (Str.ofString "started" = Str.ofString "kinds") = False := eq_false (by decide +kernel)
@[simp] theorem nm_gone_on_rule : (Str.ofString "gone_on" = Str.ofString "rule") = False := eq_false (by decide +kernel)
@[simp] theorem nm_gone_on_word : (Str.ofString "gone_on" = Str.ofString "word") = False := eq_false (by decide +kernel)
@[simp] theorem nm_gone_on_spans : (Str.ofString "gone_on" = Str.ofString "spans") = False := eq_false (by decide +kernel)
@[simp] theorem nm_gone_on_kinds : (Str.ofString "gone_on" = Str.ofString "kinds") = False := eq_false (by decide +kernel)
@[simp] theorem nm_takes_rule : (Str.ofString "takes" = Str.ofString "rule") = False := eq_false (by decide +kernel)
@[simp] theorem nm_takes_word : (Str.ofString "takes" = Str.ofString "word") = False := eq_false (by decide +kernel)
@[simp] theorem nm_takes_spans : (Str.ofString "takes" = Str.ofString "spans") = False := eq_false (by decide +kernel)
@[simp] theorem nm_takes_kinds : (Str.ofString "takes" = Str.ofString "kinds") = False := eq_false (by decide +kernel)
/-- a meeting begins at a tick -/
def startT (l : Lk) (w : Bool) (t : Ty) (k : Int) : Option Ty := match t.2 with
  | some x => if isJ l.1 w x.2 (dn k l.1.s) then some (t.1, some (x.1, up (k + 1) l.1.s)) else (laidT l w t).map fun u => (u.1, some (dn k l.1.s, up (k + 1) l.1.s))
  | none => some (t.1, some (dn k l.1.s, up (k + 1) l.1.s))
/-- .. goes on -/
def goneT (l : Lk) (t : Ty) (k : Int) : Option Ty := match t.2 with
  | none => none
  | some x => if x.2 = up k l.1.s then some (t.1, some (x.1, up (k + 1) l.1.s)) else none
theorem started_v {c : Cl} {l : Lk} (h : LkOk l) {w : Bool} {t : Ty} {k : Int} : Gives 8 (D_Maker_started c) [makD c l w, tyD t, .int k] (.val (otD (startT l w t k))) := by
  have hs := h.r.s
  obtain ⟨_, p1⟩ := (put_down_v (c := c) (t := k) (s := l.1.s) hs.1 (by omega)).elim
  obtain ⟨_, p2⟩ := (put_up_v (c := c) (t := k + 1) (s := l.1.s) hs.1 (by omega)).elim
  obtain ⟨_, p3⟩ := (laid_v (c := c) (l := l) (w := w) (t := t)).elim
  obtain ⟨n, o⟩ := t
  simp at p1 p2 p3
  cases o with
  | none =>
    simp [laidT, otD, tyD, cuD, makD, rvD] at p3
    simp [Gives, D_Maker_started, makD, rvD, tyD, cuD, p1, p2, p3, startT, otD, seD]
  | some x =>
    obtain ⟨_, p4⟩ := (is_joined_v (c := c) (r := l.1) (w := w) (e := x.2) (b := dn k l.1.s)).elim
    simp at p4
    by_cases hj : isJ l.1 w x.2 (dn k l.1.s)
    · simp [hj, rvD] at p4
      simp [Gives, D_Maker_started, makD, rvD, tyD, cuD, p1, p2, p4, startT, otD, seD, hj]
    · simp [hj, rvD] at p4
      cases e : laidT l w (n, some x) with
      | none =>
        rw [e] at p3
        simp [otD, tyD, cuD, makD, rvD, seD] at p3
        simp [Gives, D_Maker_started, makD, rvD, tyD, cuD, p1, p2, p3, p4, startT, otD, seD, hj, e]
      | some u =>
        rw [e] at p3
        simp [otD, tyD, cuD, makD, rvD, seD] at p3
        simp [Gives, D_Maker_started, makD, rvD, tyD, cuD, p1, p2, p3, p4, startT, otD, seD, hj, e]
theorem gone_v {c : Cl} {l : Lk} (h : LkOk l) {w : Bool} {t : Ty} {k : Int} : Gives 5 (D_Maker_gone_on c) [makD c l w, tyD t, .int k] (.val (otD (goneT l t k))) := by
  have hs := h.r.s
  obtain ⟨_, p1⟩ := (put_up_v (c := c) (t := k) (s := l.1.s) hs.1 (by omega)).elim
  obtain ⟨_, p2⟩ := (put_up_v (c := c) (t := k + 1) (s := l.1.s) hs.1 (by omega)).elim
  obtain ⟨n, o⟩ := t
  simp at p1 p2
  cases o with
  | none => simp [Gives, D_Maker_gone_on, makD, rvD, tyD, cuD, p1, p2, goneT, otD]
  | some x =>
    by_cases e : x.2 = up k l.1.s
    · simp [Gives, D_Maker_gone_on, makD, rvD, tyD, cuD, p1, p2, goneT, otD, seD, e]
    · simp [Gives, D_Maker_gone_on, makD, rvD, tyD, cuD, p1, p2, goneT, otD, seD, e]
/-- a letter -/
inductive Lt where
  | free
  | on
  | go (p : Bool)
def ltS : Lt → Str
  | .free => "free"
  | .on => "on"
  | .go p => wd p
def nextT (l : Lk) (w : Bool) (t : Ty) (k : Int) : Lt → Option Ty
  | .on => goneT l t k
  | _ => startT l w t k
@[simp] theorem nm_free_on : (Str.ofString "free" = Str.ofString "on") = False := eq_false (by decide +kernel)
@[simp] theorem nm_busy_on : (Str.ofString "busy" = Str.ofString "on") = False := eq_false (by decide +kernel)
@[simp] theorem nm_private_on : (Str.ofString "private" = Str.ofString "on") = False := eq_false (by decide +kernel)
@[simp] theorem nm_on_free : (Str.ofString "on" = Str.ofString "free") = False := eq_false (by decide +kernel)
@[simp] theorem nm_busy_free : (Str.ofString "busy" = Str.ofString "free") = False := eq_false (by decide +kernel)
@[simp] theorem nm_private_free : (Str.ofString "private" = Str.ofString "free") = False := eq_false (by decide +kernel)
@[simp] theorem nm_on_private : (Str.ofString "on" = Str.ofString "private") = False := eq_false (by decide +kernel)
@[simp] theorem nm_free_private : (Str.ofString "free" = Str.ofString "private") = False := eq_false (by decide +kernel)
@[simp] theorem nm_busy_private : (Str.ofString "busy" = Str.ofString "private") = False := eq_false (by decide +kernel)
@[simp] theorem nm_private_busy : (Str.ofString "private" = Str.ofString "busy") = False := eq_false (by decide +kernel)
@[simp] theorem nm_on_e : (Str.ofString "on" = Str.ofString "") = False := eq_false (by decide +kernel)
@[simp] theorem nm_free_e : (Str.ofString "free" = Str.ofString "") = False := eq_false (by decide +kernel)
@[simp] theorem nm_busy_e : (Str.ofString "busy" = Str.ofString "") = False := eq_false (by decide +kernel)
@[simp] theorem nm_private_e : (Str.ofString "private" = Str.ofString "") = False := eq_false (by decide +kernel)
theorem next_tally_v {c : Cl} {l : Lk} (h : LkOk l) {w : Bool} {t : Ty} {k : Int} {x : Lt} : Gives 4 (D__next_tally c) [makD c l w, tyD t, .int k, .str (ltS x)] (.val (otD (nextT l w t k x))) := by
  obtain ⟨_, p1⟩ := (started_v (c := c) h (w := w) (t := t) (k := k)).elim
  obtain ⟨_, p2⟩ := (gone_v (c := c) h (w := w) (t := t) (k := k)).elim
  simp at p1 p2
  obtain ⟨M, hM⟩ : ∃ M, makD c l w = M := ⟨_, rfl⟩
  obtain ⟨ds, hm⟩ : ∃ ds, M = .ins c.Maker ["rule", "word", "spans", "kinds"] ds := ⟨_, hM.symm⟩
  rw [hM, hm] at p1 p2
  rw [hM, hm]
  cases x with
  | free => simp [Gives, D__next_tally, ltS, nextT, p1]
  | on => simp [Gives, D__next_tally, ltS, nextT, p2]
  | go p => cases p <;> simp [Gives, D__next_tally, ltS, nextT, p1]
/-- the two tallies of a look, a meeting of a kind beginning or going on -/
def pairT (l : Lk) (t : Ty × Ty) (k : Int) (x : Lt) (p : Bool) : Option (Ty × Ty) := match wordOf l.1.p p with
  | some false => (nextT l false t.1 k x).map fun u => (u, t.2)
  | some true => (nextT l true t.2 k x).map fun u => (t.1, u)
  | none => some t
def opD2 : Option (Ty × Ty) → D
  | none => .non
  | some t => tpD t
def prD (c : Cl) (l : Lk) : D := .tup [makD c l false, makD c l true]
theorem next_pair_v {c : Cl} {l : Lk} (h : LkOk l) {t : Ty × Ty} {k : Int} {x : Lt} {p : Bool} : Gives 10 (D__next_pair c) [prD c l, tpD t, .int k, .str (ltS x), .str (wd p)] (.val (opD2 (pairT l t k x p))) := by
  obtain ⟨_, p1⟩ := (takes_v (c := c) (l := l) (w := false) (p := p)).elim
  obtain ⟨_, p2⟩ := (takes_v (c := c) (l := l) (w := true) (p := p)).elim
  obtain ⟨_, p3⟩ := (next_tally_v (c := c) h (w := false) (t := t.1) (k := k) (x := x)).elim
  obtain ⟨_, p4⟩ := (next_tally_v (c := c) h (w := true) (t := t.2) (k := k) (x := x)).elim
  simp at p1 p2 p3 p4
  obtain ⟨M, hM⟩ : ∃ M, makD c l false = M := ⟨_, rfl⟩
  obtain ⟨N, hN⟩ : ∃ N, makD c l true = N := ⟨_, rfl⟩
  obtain ⟨ds, hm⟩ : ∃ ds, M = .ins c.Maker ["rule", "word", "spans", "kinds"] ds := ⟨_, hM.symm⟩
  obtain ⟨es, hn⟩ : ∃ ds, N = .ins c.Maker ["rule", "word", "spans", "kinds"] ds := ⟨_, hN.symm⟩
  rw [hM, hm] at p1 p3
  rw [hN, hn] at p2 p4
  simp only [prD, hM, hN, hm, hn, tpD]
  obtain ⟨t1, t2⟩ := t
  cases hw : wordOf l.1.p p with
  | none =>
    simp [hw] at p1 p2
    simp [Gives, D__next_pair, p1, p2, pairT, hw, opD2, tpD]
  | some w =>
    cases w with
    | false =>
      simp [hw] at p1
      cases e : nextT l false t1 k x with
      | none =>
        simp [e, otD] at p3
        simp [Gives, D__next_pair, p1, p3, pairT, hw, opD2, tpD, e]
      | some u =>
        simp [e, otD] at p3
        obtain ⟨T, hT⟩ : ∃ T, tyD u = T := ⟨_, rfl⟩
        have hT2 : ∃ a b, T = .tup [a, b] := ⟨_, _, hT.symm⟩
        obtain ⟨a, b, rfl⟩ := hT2
        rw [hT] at p3
        simp [Gives, D__next_pair, p1, p3, pairT, hw, opD2, tpD, e, hT]
    | true =>
      simp [hw] at p1 p2
      cases e : nextT l true t2 k x with
      | none =>
        simp [e, otD] at p4
        simp [Gives, D__next_pair, p1, p2, p4, pairT, hw, opD2, tpD, e]
      | some u =>
        simp [e, otD] at p4
        obtain ⟨T, hT⟩ : ∃ T, tyD u = T := ⟨_, rfl⟩
        have hT2 : ∃ a b, T = .tup [a, b] := ⟨_, _, hT.symm⟩
        obtain ⟨a, b, rfl⟩ := hT2
        rw [hT] at p4
        simp [Gives, D__next_pair, p1, p2, p4, pairT, hw, opD2, tpD, e, hT]
end DL
set_option linter.all false
set_option maxRecDepth 100000
set_option maxHeartbeats 1000000
namespace DL
open PySem PySem.Spec PyProof.Rows L2 DD
theorem allB_bs : ∀ bs : List Bool, allB (bs.map D.bl) = some bs
  | [] => rfl
  | b :: bs => by
    rw [List.map_cons]
    simp [allB, allB_bs bs]
def tkn : Lt → Bool
  | .free => false
  | _ => true
/-- may a tick have a letter -/
def isLet (f : Fr) (k : Int) (x : Lt) : Bool := !(match x with
  | .go true => !f.p
  | _ => false) && f.ks.all fun q => !(decide (q.1 = k)) || q.2 == tkn x
theorem is_let_v {c : Cl} {f : Fr} (hz : f.ks.length ≤ 1000) {k : Int} {x : Lt} : Gives 6 (D_is_let c) [fvD c f, .int k, .str (ltS x)] (.val (.bl (isLet f k x))) := by
  have L := fun v => lc_fm (vs := [4, 5]) (U := uTup 2 (usCons (uName 4) (usCons (uName 5) usNil))) (T := dTest (dBin opEq (dVar 4) (dVar 1))) (A := dBin opEq (dVar 5) (dVar 3)) (enc := knD) (fun q : Kn => if q.1 = k then some (.bl (q.2 == tkn x)) else none) (ρ := [.val (fvD c f), .val (.int k), v, .val (.bl (tkn x)), .none, .none]) (L := f.ks) (acc := []) (fun q hq ds acc ha => by
    have ha' : acc.length < 16777216 := by omega
    by_cases e : q.1 = k
    · simp [lcL, knD, e, ha']
      rfl
    · simp [lcL, knD, e]) (by simp; omega)
  have e : f.ks.filterMap (fun q : Kn => if q.1 = k then some (D.bl (q.2 == tkn x)) else none) = ((f.ks.filter fun q => decide (q.1 = k)).map fun q => (q.2 == tkn x)).map D.bl := by
    generalize f.ks = ks
    induction ks with
    | nil => rfl
    | cons q ks ih => by_cases e : q.1 = k <;> simp [e] at ih ⊢ <;> exact ih
  have e2 : ((f.ks.filter fun q => decide (q.1 = k)).map fun q => (q.2 == tkn x)).all id = f.ks.all fun q => !(decide (q.1 = k)) || q.2 == tkn x := by
    generalize f.ks = ks
    induction ks with
    | nil => rfl
    | cons q ks ih =>
      by_cases e : q.1 = k
      · simp only [e, decide_true, List.filter_cons_of_pos, List.map_cons, List.all_cons, ih, Bool.not_true, Bool.false_or, id_eq]
      · simp [e] at ih ⊢ <;> exact ih
  have L1 := L
  rw [e] at L1
  have ab := allB_bs ((f.ks.filter fun q => decide (q.1 = k)).map fun q => (q.2 == tkn x))
  unfold isLet
  rw [← e2]
  generalize ((f.ks.filter fun q => decide (q.1 = k)).map fun q => (q.2 == tkn x)) = B at L1 ab
  cases x with
  | free =>
    simp [fvD, tkn] at L1
    simp [Gives, D_is_let, fvD, ltS, lcAll, L1, ab]
  | on =>
    simp [fvD, tkn] at L1
    simp [Gives, D_is_let, fvD, ltS, lcAll, L1, ab]
  | go p =>
    cases p with
    | false =>
      simp [fvD, tkn] at L1
      simp [Gives, D_is_let, fvD, ltS, lcAll, L1, ab]
    | true =>
      simp [fvD, tkn] at L1
      cases hp : f.p
      · simp [Gives, D_is_let, fvD, ltS, hp]
      · simp [hp] at L1
        simp [Gives, D_is_let, fvD, ltS, lcAll, L1, ab, hp]
abbrev Hd := Str × Int × Int
def hdD (h : Hd) : D := .tup [.str h.1, .int h.2.1, .int h.2.2]
def ohD : Option Hd → D
  | none => .non
  | some h => hdD h
def headT (f : Fr) (h : Hd) : Lt → Option Hd
  | .on => if h.1 = "" then none else some (h.1, mn (h.2.1 + 1) f.s, h.2.2)
  | .free => if h.1 = "" ∨ h.2.1 = f.s then some ("", 0, h.2.2) else none
  | .go p => if h.1 = "" ∨ h.2.1 = f.s then (match f.m with
    | none => some (wd p, 1, 0)
    | some m => if m ≤ h.2.2 then none else some (wd p, 1, h.2.2 + 1)) else none
theorem long_v {c : Cl} {f : Fr} {h : Hd} : Gives 5 (D_is_long_enough c) [fvD c f, hdD h] (.val (.bl (decide (h.1 = "" ∨ h.2.1 = f.s)))) := by
  by_cases e : h.1 = ""
  · simp [Gives, D_is_long_enough, hdD, fvD, e]
  · by_cases e2 : h.2.1 = f.s <;> simp [Gives, D_is_long_enough, hdD, fvD, e, e2]
theorem next_head_v {c : Cl} {f : Fr} {h : Hd} {x : Lt} : Gives 6 (D_next_head c) [fvD c f, hdD h, .str (ltS x)] (.val (ohD (headT f h x))) := by
  obtain ⟨_, p1⟩ := (long_v (c := c) (f := f) (h := h)).elim
  cases x with
  | on =>
    by_cases e : h.1 = ""
    · simp [Gives, D_next_head, fvD, hdD, ltS, headT, ohD, e]
    · simp [Gives, D_next_head, fvD, hdD, ltS, headT, ohD, e, mn]
  | free =>
    by_cases e : h.1 = "" ∨ h.2.1 = f.s
    · rw [decide_eq_true e] at p1
      simp [fvD, hdD] at p1
      simp [Gives, D_next_head, fvD, hdD, ltS, headT, ohD, p1, e]
    · rw [decide_eq_false e] at p1
      simp [fvD, hdD] at p1
      simp [Gives, D_next_head, fvD, hdD, ltS, headT, ohD, p1, e]
  | go p =>
    by_cases e : h.1 = "" ∨ h.2.1 = f.s
    · rw [decide_eq_true e] at p1
      simp [fvD, hdD] at p1
      cases hm : f.m with
      | none =>
        simp [hm, moD] at p1
        cases p <;> simp [Gives, D_next_head, D__begun_head, fvD, hdD, ltS, headT, ohD, p1, e, hm, moD]
      | some m =>
        simp [hm, moD] at p1
        by_cases e2 : m ≤ h.2.2
        · cases p <;> simp [Gives, D_next_head, D__begun_head, fvD, hdD, ltS, headT, ohD, p1, e, hm, moD, e2]
        · cases p <;> simp [Gives, D_next_head, D__begun_head, fvD, hdD, ltS, headT, ohD, p1, e, hm, moD, e2]
    · rw [decide_eq_false e] at p1
      simp [fvD, hdD] at p1
      cases p <;> simp [Gives, D_next_head, fvD, hdD, ltS, headT, ohD, p1, e]
theorem make_makers_v {c : Cl} {Ls : List Lk} (h : ∀ l ∈ Ls, LkOk l) (hz : Ls.length ≤ 1000) {d : D} (hd : d = .lst (Ls.map (lvD c)) ∨ d = .tup (Ls.map (lvD c))) : Gives 3 (D_make_makers c) [d] (.new (.lst (Ls.map (prD c)))) := by
  have L := fun d : D => lc_fm (vs := [1]) (U := uName 1) (T := tdYes) (A := dCB fTuple (aCons (dLcS (dC (.tup [(.str "busy"), (.str "private")])) [2] (uName 2) tdYes (dMake c.Maker 3 9 (fun ρ => D_Maker___init__ c ρ) (aCons (dVar 1) (aCons (dVar 2) aNil)))) aNil)) (enc := lvD c) (fun l => some (prD c l)) (ρ := [.val d, .none, .none]) (L := Ls) (acc := []) (fun l hl ds acc ha => by
    have ha' : acc.length < 16777216 := by omega
    obtain ⟨_, p1, q1⟩ := (maker_init (c := c) (h l hl) (w := false)).elim
    obtain ⟨_, p2, q2⟩ := (maker_init (c := c) (h l hl) (w := true)).elim
    have e1 : (mkO c l false).d = makD c l false := rfl
    have e2 : (mkO c l true).d = makD c l true := rfl
    simp at p1 p2
    simp [lcL, p1, q1, p2, q2, lcAll, ha', mkO, makD, prD]) (by simp; omega)
  have e : Ls.filterMap (fun l => some (prD c l)) = Ls.map (prD c) := by simp
  have L1 := L d
  rw [e] at L1
  rcases hd with rfl | rfl
  · simp at L1
    simp [Gives, D_make_makers, lcAll, L1]
  · simp at L1
    simp [Gives, D_make_makers, lcAll, L1]
end DL
set_option linter.all false
set_option maxRecDepth 100000
set_option maxHeartbeats 1000000
namespace DL
open PySem PySem.Spec PyProof.Rows L2 DD
def makeAll (k : Int) (x : Lt) (p : Bool) : List Lk → List (Ty × Ty) → Option (List (Ty × Ty))
  | l :: Ls, t :: ts => match pairT l t k x p with
    | none => none
    | some u => (makeAll k x p Ls ts).map (u :: ·)
  | _, _ => some []
def okD : Option (List (Ty × Ty)) → D
  | none => .non
  | some ts => .tup (ts.map tpD)
theorem making_loop {c : Cl} {k : Int} {x : Lt} {p : Bool} {v0 v1 : Slot} : ∀ {Ls : List Lk} {ts acc : List (Ty × Ty)} {s6 s7 s8 : Slot}, (∀ l ∈ Ls, LkOk l) → acc.length + ts.length ≤ 1000 → s6.free = true → s7.free = true → s8.free = true → match makeAll k x p Ls ts with
    | none => ∃ ρ', forL (uTup 2 (usCons (uName 6) (usCons (uName 7) usNil))) (D_next_making_b1 c) (zipD (Ls.map (prD c)) (ts.map tpD)) [v0, v1, .val (.int k), .val (.str (ltS x)), .val (.str (wd p)), .own (.lst (acc.map tpD)), s6, s7, s8] = .rt (.val .non) ρ'
    | some us => ∃ s6' s7' s8', forL (uTup 2 (usCons (uName 6) (usCons (uName 7) usNil))) (D_next_making_b1 c) (zipD (Ls.map (prD c)) (ts.map tpD)) [v0, v1, .val (.int k), .val (.str (ltS x)), .val (.str (wd p)), .own (.lst (acc.map tpD)), s6, s7, s8] = .nx [v0, v1, .val (.int k), .val (.str (ltS x)), .val (.str (wd p)), .own (.lst ((acc ++ us).map tpD)), s6', s7', s8']
  | [], ts, acc, s6, s7, s8, _, _, _, _, _ => by
    refine ⟨s6, s7, s8, ?_⟩
    simp [zipD, forL]
  | l :: Ls, [], acc, s6, s7, s8, _, _, _, _, _ => by
    refine ⟨s6, s7, s8, ?_⟩
    simp [zipD, forL]
  | l :: Ls, t :: ts, acc, s6, s7, s8, h, hz, f6, f7, f8 => by
    obtain ⟨_, q⟩ := (next_pair_v (c := c) (h l (by simp)) (t := t) (k := k) (x := x) (p := p)).elim
    simp at q
    have z : acc.length < 16777216 := by simp at hz; omega
    obtain ⟨P, hP⟩ : ∃ P, prD c l = P := ⟨_, rfl⟩
    obtain ⟨T, hT⟩ : ∃ T, tpD t = T := ⟨_, rfl⟩
    rw [hP, hT] at q
    cases e : pairT l t k x p with
    | none =>
      rw [e] at q
      simp [opD2] at q
      simp only [makeAll, e]
      refine ⟨[v0, v1, .val (.int k), .val (.str (ltS x)), .val (.str (wd p)), .own (.lst (acc.map tpD)), .val P, .val T, .val .non], ?_⟩
      simp only [List.map_cons, zipD, hP, hT]
      simp [forL, D_next_making_b1, f6, f7, f8, q]
    | some u =>
      rw [e] at q
      simp [opD2] at q
      obtain ⟨U, hU⟩ : ∃ U, tpD u = U := ⟨_, rfl⟩
      obtain ⟨a, b, hU2⟩ : ∃ a b, U = .tup [a, b] := ⟨_, _, hU.symm⟩
      have ih := making_loop (c := c) (k := k) (x := x) (p := p) (v0 := v0) (v1 := v1) (Ls := Ls) (ts := ts) (acc := acc ++ [u]) (s6 := .val P) (s7 := .val T) (s8 := .val U) (fun z hz => h z (by simp [hz])) (by simp at hz ⊢; omega) rfl rfl rfl
      have st : ∀ R, forL (uTup 2 (usCons (uName 6) (usCons (uName 7) usNil))) (D_next_making_b1 c) (zipD (Ls.map (prD c)) (ts.map tpD)) [v0, v1, .val (.int k), .val (.str (ltS x)), .val (.str (wd p)), .own (.lst ((acc ++ [u]).map tpD)), .val P, .val T, .val U] = R → forL (uTup 2 (usCons (uName 6) (usCons (uName 7) usNil))) (D_next_making_b1 c) (zipD ((l :: Ls).map (prD c)) ((t :: ts).map tpD)) [v0, v1, .val (.int k), .val (.str (ltS x)), .val (.str (wd p)), .own (.lst (acc.map tpD)), s6, s7, s8] = R := fun R hR => by
        rw [← hR]
        rw [hU, hU2] at q
        simp only [List.map_cons, zipD, hP, hT, List.map_append, List.map_nil, hU]
        simp [forL, D_next_making_b1, f6, f7, f8, q, z, hU2]
      simp only [makeAll, e]
      cases em : makeAll k x p Ls ts with
      | none =>
        rw [em] at ih
        obtain ⟨ρ', ih⟩ := ih
        exact ⟨ρ', st _ ih⟩
      | some us =>
        rw [em] at ih
        obtain ⟨a6, a7, a8, ih⟩ := ih
        refine ⟨a6, a7, a8, ?_⟩
        rw [st _ ih]
        simp
def makingT (k : Int) (x : Lt) (p : Bool) (Ls : List Lk) (ts : List (Ty × Ty)) : Option (List (Ty × Ty)) := match x with
  | .free => some ts
  | _ => makeAll k x p Ls ts
theorem makeAll_len {k : Int} {x : Lt} {p : Bool} : ∀ {Ls : List Lk} {ts us : List (Ty × Ty)}, makeAll k x p Ls ts = some us → us.length ≤ ts.length
  | [], ts, us, e => by simp [makeAll] at e; subst e; simp
  | l :: Ls, [], us, e => by simp [makeAll] at e; subst e; simp
  | l :: Ls, t :: ts, us, e => by
    simp only [makeAll] at e
    cases e1 : pairT l t k x p with
    | none => rw [e1] at e; cases e
    | some u =>
      rw [e1] at e
      cases e2 : makeAll k x p Ls ts with
      | none => rw [e2] at e; cases e
      | some vs =>
        rw [e2] at e
        cases e
        have := makeAll_len e2
        simp
        omega
theorem next_making_v {c : Cl} {k : Int} {x : Lt} {p : Bool} {Ls : List Lk} {ts : List (Ty × Ty)} (h : ∀ l ∈ Ls, LkOk l) (hz : ts.length ≤ 1000) (hx : x ≠ .free) : Gives 9 (D_next_making c) [.lst (Ls.map (prD c)), .tup (ts.map tpD), .int k, .str (ltS x), .str (wd p)] (.val (okD (makingT k x p Ls ts))) := by
  have L := making_loop (c := c) (k := k) (x := x) (p := p) (v0 := .val (.lst (Ls.map (prD c)))) (v1 := .val (.tup (ts.map tpD))) (Ls := Ls) (ts := ts) (acc := []) (s6 := .none) (s7 := .none) (s8 := .none) h (by simp; omega) rfl rfl rfl
  have hm : makingT k x p Ls ts = makeAll k x p Ls ts := by cases x <;> first | exact absurd rfl hx | rfl
  have hf : (ltS x = Str.ofString "free") = False := by
    cases x with
    | free => exact absurd rfl hx
    | on => simp [ltS]
    | go p => cases p <;> simp [ltS]
  rw [hm]
  cases e : makeAll k x p Ls ts with
  | none =>
    rw [e] at L
    obtain ⟨ρ', L⟩ := L
    simp at L
    simp [Gives, D_next_making, dZipM, hf, L, okD]
  | some us =>
    rw [e] at L
    obtain ⟨a, b, d, L⟩ := L
    have z := makeAll_len e
    have z2 : us.length ≤ 16777216 := by omega
    simp at L
    simp [Gives, D_next_making, dZipM, hf, L, okD, z2]
theorem next_making_free {c : Cl} {k : Int} {g : Str} {Ls : List Lk} {ts : List (Ty × Ty)} : Gives 9 (D_next_making c) [.lst (Ls.map (prD c)), .tup (ts.map tpD), .int k, .str "free", .str g] (.val (.tup (ts.map tpD))) := by
  simp [Gives, D_next_making]
/-- a standing goes on -/
def nextS (Ls : List Lk) (f : Fr) (k : Int) (s : St) (x : Lt) : Option St := match headT f (s.g, s.r, s.m) x with
  | none => none
  | some h => match makingT k x (match x with
      | .go p => p
      | _ => decide (s.g = "private")) Ls s.k with
    | none => none
    | some ts => some ⟨h.1, h.2.1, h.2.2, ts⟩
def osD : Option St → D
  | none => .non
  | some s => stD s
/-- what a standing's first word is -/
def StW (s : St) : Prop := s.g = "" ∨ ∃ p, s.g = wd p
theorem next_standing_v {c : Cl} {f : Fr} {Ls : List Lk} (h : ∀ l ∈ Ls, LkOk l) {k : Int} {s : St} (hs : StW s) (hz : s.k.length ≤ 1000) {x : Lt} : Gives 11 (D_next_standing c) [fvD c f, .lst (Ls.map (prD c)), .int k, stD s, .str (ltS x)] (.val (osD (nextS Ls f k s x))) := by
  obtain ⟨_, p1⟩ := (next_head_v (c := c) (f := f) (h := (s.g, s.r, s.m)) (x := x)).elim
  obtain ⟨F, hF⟩ : ∃ F, fvD c f = F := ⟨_, rfl⟩
  obtain ⟨M, hM⟩ : ∃ M, Ls.map (prD c) = M := ⟨_, rfl⟩
  rw [hF] at p1 ⊢
  cases e : headT f (s.g, s.r, s.m) x with
  | none =>
    rw [e] at p1
    simp [hdD, ohD] at p1
    simp [Gives, D_next_standing, stD, p1, nextS, e, osD]
  | some hd =>
    rw [e] at p1
    simp [hdD, ohD] at p1
    cases x with
    | free =>
      obtain ⟨_, p2⟩ := (next_making_free (c := c) (k := k) (g := "free") (Ls := Ls) (ts := s.k)).elim
      rw [hM] at p2 ⊢
      simp [ltS] at p1 p2
      simp [Gives, D_next_standing, stD, p1, p2, nextS, e, osD, makingT, ltS]
    | on =>
      have hg : ∃ p, s.g = wd p ∧ decide (s.g = "private") = p := by
        rcases hs with hs | ⟨p, hs⟩
        · rw [hs] at e
          simp [headT] at e
        · refine ⟨p, hs, ?_⟩
          rw [hs]
          cases p <;> simp
      obtain ⟨p, hg, hp⟩ := hg
      obtain ⟨_, p2⟩ := (next_making_v (c := c) (k := k) (x := .on) (p := p) (ts := s.k) h hz (fun h => by cases h)).elim
      rw [hM] at p2 ⊢
      simp only [nextS, e, hp]
      rw [hg] at p1
      simp only [stD, hg]
      cases em : makingT k .on p Ls s.k with
      | none =>
        rw [em] at p2
        simp [ltS, okD] at p1 p2
        simp [Gives, D_next_standing, p1, p2, osD, ltS]
      | some ts =>
        rw [em] at p2
        simp [ltS, okD] at p1 p2
        simp [Gives, D_next_standing, p1, p2, osD, stD, ltS]
    | go p =>
      obtain ⟨_, p2⟩ := (next_making_v (c := c) (k := k) (x := .go p) (p := p) (ts := s.k) h hz (fun h => by cases h)).elim
      rw [hM] at p2 ⊢
      simp only [nextS, e]
      have ho : (wd p = Str.ofString "on") = False := by cases p <;> simp
      cases em : makingT k (.go p) p Ls s.k with
      | none =>
        rw [em] at p2
        simp [ltS, okD] at p1 p2
        simp [Gives, D_next_standing, stD, p1, p2, osD, ltS, ho]
      | some ts =>
        rw [em] at p2
        simp [ltS, okD] at p1 p2
        simp [Gives, D_next_standing, p1, p2, osD, stD, ltS, ho]
def afterT (f : Fr) (Ls : List Lk) (k : Int) (s : St) (x : Lt) : Option St := if isLet f k x = true then nextS Ls f k s x else none
theorem after_v {c : Cl} {f : Fr} (hk : f.ks.length ≤ 1000) {Ls : List Lk} (h : ∀ l ∈ Ls, LkOk l) (hl : Ls.length ≤ 1000) {d : D} (hd : d = .lst (Ls.map (lvD c)) ∨ d = .tup (Ls.map (lvD c))) {k : Int} {s : St} (hs : StW s) (hz : s.k.length ≤ 1000) {x : Lt} : Gives 5 (D_after c) [fvD c f, d, .int k, stD s, .str (ltS x)] (.val (osD (afterT f Ls k s x))) := by
  obtain ⟨_, p1⟩ := (check_looks_v (c := c) h hd).elim
  obtain ⟨_, p2⟩ := (is_let_v (c := c) (f := f) hk (k := k) (x := x)).elim
  obtain ⟨_, p3⟩ := (make_makers_v (c := c) h hl hd).elim
  obtain ⟨_, p4⟩ := (next_standing_v (c := c) (f := f) h (k := k) hs hz (x := x)).elim
  simp at p1 p2 p3 p4
  obtain ⟨F, hF⟩ : ∃ F, fvD c f = F := ⟨_, rfl⟩
  obtain ⟨S, hS⟩ : ∃ S, stD s = S := ⟨_, rfl⟩
  rw [hF] at p2 p4 ⊢
  rw [hS] at p4 ⊢
  unfold afterT
  cases e : isLet f k x with
  | false =>
    rw [e] at p2
    simp [Gives, D_after, p1, p2, osD]
  | true =>
    rw [e] at p2
    simp [Gives, D_after, p1, p2, p3, p4]
end DL
set_option linter.all false
set_option maxRecDepth 100000
set_option maxHeartbeats 1000000
namespace DL
open PySem PySem.Spec PyProof.Rows L2 DD
/-- letters read: how many, the meetings that ended, the open one -/
structure Rd where
  t : Nat
  ms : List Mt
  o : Option (Int × Bool)
def clo (t : Nat) : Option (Int × Bool) → List Mt
  | none => []
  | some (b, p) => [(b, (t : Int), p)]
def rdF (s : Rd) : Lt → Rd
  | .on => ⟨s.t + 1, s.ms, s.o⟩
  | .free => ⟨s.t + 1, s.ms ++ clo s.t s.o, none⟩
  | .go p => ⟨s.t + 1, s.ms ++ clo s.t s.o, some ((s.t : Int), p)⟩
def rd (row : List Lt) : Rd := row.foldl rdF ⟨0, [], none⟩
def readL (row : List Lt) : List Mt := (rd row).ms ++ clo (rd row).t (rd row).o
theorem rd_snoc {row : List Lt} {x : Lt} : rd (row ++ [x]) = rdF (rd row) x := by simp [rd]
theorem rdF_t {s : Rd} {x : Lt} : (rdF s x).t = s.t + 1 := by cases x <;> rfl
def o1 : Option (Int × Bool) → D
  | none => .non
  | some x => .int x.1
def o2 : Option (Int × Bool) → D
  | none => .str ""
  | some x => .str (wd x.2)
theorem clo_len {t : Nat} {o : Option (Int × Bool)} : (clo t o).length ≤ 1 := by
  cases o with
  | none => simp [clo]
  | some x => simp [clo]
theorem read_step {c : Cl} {v0 : Slot} {s : Rd} {x : Lt} (hz : s.ms.length < 10000) {s4 s5 : Slot} (f4 : s4.free = true) (f5 : s5.free = true) : stepL (uTup 2 (usCons (uName 4) (usCons (uName 5) usNil))) (D__law_read_b1 c) (.tup [.int s.t, .str (ltS x)]) [v0, .own (.lst (s.ms.map mtD)), .val (o1 s.o), .val (o2 s.o), s4, s5] = .nx [v0, .own (.lst ((rdF s x).ms.map mtD)), .val (o1 (rdF s x).o), .val (o2 (rdF s x).o), .val (.int s.t), .val (.str (ltS x))] := by
  have z : s.ms.length + 1 ≤ 16777216 := by omega
  have z0 : s.ms.length ≤ 16777216 := by omega
  obtain ⟨t, ms, o⟩ := s
  cases x with
  | on => simp [D__law_read_b1, ltS, rdF, f4, f5]
  | free =>
    cases o with
    | none => simp [D__law_read_b1, ltS, rdF, f4, f5, o1, o2, clo, z0] at z0 ⊢ <;> simp [z0]
    | some y => obtain ⟨b, p⟩ := y; cases p <;> simp [D__law_read_b1, ltS, rdF, f4, f5, o1, o2, clo, mtD] at z ⊢ <;> simp [z]
  | go q =>
    cases o with
    | none => cases q <;> simp [D__law_read_b1, ltS, rdF, f4, f5, o1, o2, clo] at z0 ⊢ <;> simp [z0]
    | some y => obtain ⟨b, p⟩ := y; cases p <;> cases q <;> simp [D__law_read_b1, ltS, rdF, f4, f5, o1, o2, clo, mtD] at z ⊢ <;> simp [z]
theorem rdF_len {s : Rd} {x : Lt} : (rdF s x).ms.length ≤ s.ms.length + 1 := by
  have := clo_len (t := s.t) (o := s.o)
  cases x <;> simp [rdF] <;> omega
theorem read_loop {c : Cl} {v0 : Slot} : ∀ {row : List Lt} {s : Rd} {s4 s5 : Slot}, s.ms.length + row.length < 10000 → s4.free = true → s5.free = true → ∃ s4' s5' : Slot, forL (uTup 2 (usCons (uName 4) (usCons (uName 5) usNil))) (D__law_read_b1 c) (enumD s.t (row.map fun x => D.str (ltS x))) [v0, .own (.lst (s.ms.map mtD)), .val (o1 s.o), .val (o2 s.o), s4, s5] = .nx [v0, .own (.lst ((row.foldl rdF s).ms.map mtD)), .val (o1 (row.foldl rdF s).o), .val (o2 (row.foldl rdF s).o), s4', s5'] ∧ s4'.free = true ∧ s5'.free = true
  | [], s, s4, s5, hz, f4, f5 => ⟨s4, s5, rfl, f4, f5⟩
  | x :: row, s, s4, s5, hz, f4, f5 => by
    have st := read_step (c := c) (v0 := v0) (s := s) (x := x) (by omega) f4 f5
    have hl := rdF_len (s := s) (x := x)
    obtain ⟨a, b, e, g4, g5⟩ := read_loop (c := c) (v0 := v0) (row := row) (s := rdF s x) (s4 := .val (.int s.t)) (s5 := .val (.str (ltS x))) (by simp at hz; omega) rfl rfl
    refine ⟨a, b, ?_, g4, g5⟩
    rw [List.map_cons, enumD, List.foldl_cons, ← e, rdF_t]
    unfold stepL at st
    generalize hρ : [v0, .own (.lst (s.ms.map mtD)), .val (o1 s.o), .val (o2 s.o), s4, s5] = ρ at st
    conv => lhs; unfold forL
    cases eU : uTup 2 (usCons (uName 4) (usCons (uName 5) usNil)) (.tup [.int s.t, .str (ltS x)]) ρ with
    | none => rw [eU] at st; cases st
    | some ρ1 =>
      rw [eU] at st
      simp only [st]
theorem read_v {c : Cl} {row : List Lt} (hz : row.length < 5000) : Gives 6 (D__law_read c) [.lst (row.map fun x => D.str (ltS x))] (.new (.lst ((readL row).map mtD))) := by
  obtain ⟨a, b, e, f4, f5⟩ := read_loop (c := c) (v0 := .val (.lst (row.map fun x => D.str (ltS x)))) (row := row ++ [.free]) (s := ⟨0, [], none⟩) (s4 := .none) (s5 := .none) (by simp; omega) rfl rfl
  have e1 : ((row ++ [Lt.free]).foldl rdF ⟨0, [], none⟩).ms = readL row := by
    rw [List.foldl_append]
    rfl
  have e2 : (row ++ [Lt.free]).map (fun x => D.str (ltS x)) = row.map (fun x => D.str (ltS x)) ++ [.str "free"] := by
    rw [List.map_append]
    rfl
  rw [e1, e2] at e
  have z : (row.map fun x => D.str (ltS x)).length + 1 ≤ 16777216 := by simp; omega
  generalize (row.map fun x => D.str (ltS x)) = R at e z
  generalize o1 ((row ++ [Lt.free]).foldl rdF ⟨0, [], none⟩).o = X at e
  generalize o2 ((row ++ [Lt.free]).foldl rdF ⟨0, [], none⟩).o = Y at e
  simp [o1, o2] at e
  simp [Gives, D__law_read, dEnum2, e, z]
end DL
set_option linter.all false
set_option maxRecDepth 100000
set_option maxHeartbeats 1000000
namespace DL
open PySem PySem.Spec PyProof.Rows L2 DD
@[simp] theorem nm_on_busy : (Str.ofString "on" = Str.ofString "busy") = False := eq_false (by decide +kernel)
@[simp] theorem nm_free_busy : (Str.ofString "free" = Str.ofString "busy") = False := eq_false (by decide +kernel)
/-- the tick, how long the open meeting is, how many there are -/
structure Rw where
  t : Nat
  run : Int
  many : Int
def isGo : Lt → Bool
  | .go _ => true
  | _ => false
def good (f : Fr) (s : Rw) (x : Lt) : Bool :=
  (f.ks.all fun q => !(decide (q.1 = (s.t : Int)) && (q.2 == !(tkn x)))) &&
  !((match x with | .on => decide (s.run = 0) | _ => decide (0 < s.run) && decide (s.run < f.s))) &&
  !(match x with | .go true => !f.p | _ => false)
def rwF (f : Fr) (s : Rw) (x : Lt) : Rw := ⟨s.t + 1, match x with | .free => 0 | .on => s.run + 1 | .go _ => 1, s.many + (if isGo x = true then 1 else 0)⟩
def rws (f : Fr) : List Lt → Rw → Option Rw
  | [], s => some s
  | x :: row, s => if good f s x = true then rws f row (rwF f s x) else none
theorem rws_snoc {f : Fr} {x : Lt} : ∀ {row : List Lt} {s : Rw}, rws f (row ++ [x]) s = match rws f row s with
    | none => none
    | some s' => if good f s' x = true then some (rwF f s' x) else none
  | [], s => by simp [rws]
  | y :: row, s => by
    rw [List.cons_append]
    unfold rws
    by_cases h : good f s y = true
    · rw [if_pos h, if_pos h, rws_snoc]
    · rw [if_neg h, if_neg h]
def topOk (f : Fr) (n : Int) : Bool := match f.m with
  | none => true
  | some m => decide (n ≤ m)
def isRow (f : Fr) (row : List Lt) : Bool := match rws f row ⟨0, 0, 0⟩ with
  | none => false
  | some s => topOk f s.many
theorem fact_loop {c : Cl} {t : Int} {x : Lt} {v0 v1 v2 v3 : Slot} : ∀ {ks : List Kn} {s6 s7 : Slot}, s6.free = true → s7.free = true → if (ks.all fun q => !(decide (q.1 = t) && (q.2 == !(tkn x)))) = true then ∃ s6' s7' : Slot, forL (uTup 2 (usCons (uName 6) (usCons (uName 7) usNil))) (D__law_is_row_b1 c) (ks.map knD) [v0, v1, v2, v3, .val (.int t), .val (.str (ltS x)), s6, s7] = .nx [v0, v1, v2, v3, .val (.int t), .val (.str (ltS x)), s6', s7'] ∧ s6'.free = true ∧ s7'.free = true else ∃ ρ', forL (uTup 2 (usCons (uName 6) (usCons (uName 7) usNil))) (D__law_is_row_b1 c) (ks.map knD) [v0, v1, v2, v3, .val (.int t), .val (.str (ltS x)), s6, s7] = .rt (.val (.bl false)) ρ'
  | [], s6, s7, f6, f7 => by
    rw [if_pos (by rfl)]
    exact ⟨s6, s7, rfl, f6, f7⟩
  | q :: ks, s6, s7, f6, f7 => by
    have ef : (decide (ltS x = Str.ofString "free")) = !(tkn x) := by
      cases x with
      | free => simp [ltS, tkn]
      | on => simp [ltS, tkn]
      | go p => cases p <;> simp [ltS, tkn]
    have ih := fact_loop (c := c) (t := t) (x := x) (v0 := v0) (v1 := v1) (v2 := v2) (v3 := v3) (ks := ks) (s6 := .val (.int q.1)) (s7 := .val (.bl q.2)) rfl rfl
    by_cases h : (decide (q.1 = t) && (q.2 == !(tkn x))) = true
    · have h0 : ((q :: ks).all fun q => !(decide (q.1 = t) && (q.2 == !(tkn x)))) = false := by simp only [List.all_cons, h, Bool.not_true, Bool.false_and]
      rw [h0, if_neg (by simp)]
      refine ⟨[v0, v1, v2, v3, .val (.int t), .val (.str (ltS x)), .val (.int q.1), .val (.bl q.2)], ?_⟩
      obtain ⟨a, b⟩ := q
      rw [Bool.and_eq_true] at h
      have h1 : a = t := by simpa using h.1
      have h2 : b = !(tkn x) := by simpa using h.2
      simp [forL, D__law_is_row_b1, knD, f6, f7, h1, ef, h2]
    · have h' : (decide (q.1 = t) && (q.2 == !(tkn x))) = false := by simpa using h
      have h0 : ((q :: ks).all fun q => !(decide (q.1 = t) && (q.2 == !(tkn x)))) = (ks.all fun q => !(decide (q.1 = t) && (q.2 == !(tkn x)))) := by simp only [List.all_cons, h', Bool.not_false, Bool.true_and]
      rw [h0]
      have st : forL (uTup 2 (usCons (uName 6) (usCons (uName 7) usNil))) (D__law_is_row_b1 c) ((q :: ks).map knD) [v0, v1, v2, v3, .val (.int t), .val (.str (ltS x)), s6, s7] = forL (uTup 2 (usCons (uName 6) (usCons (uName 7) usNil))) (D__law_is_row_b1 c) (ks.map knD) [v0, v1, v2, v3, .val (.int t), .val (.str (ltS x)), .val (.int q.1), .val (.bl q.2)] := by
        obtain ⟨a, b⟩ := q
        by_cases h1 : a = t
        · have h2 : (b == !(tkn x)) = false := by
            rw [h1] at h'
            simpa using h'
          have h3 : ¬ b = !(tkn x) := by simpa using h2
          simp [forL, D__law_is_row_b1, knD, f6, f7, h1, ef, h3]
        · simp [forL, D__law_is_row_b1, knD, f6, f7, h1, ef]
      rw [st]
      exact ih
theorem row_step {c : Cl} {f : Fr} {v1 : Slot} {s : Rw} {x : Lt} {s4 s5 s6 s7 : Slot} (f4 : s4.free = true) (f5 : s5.free = true) (f6 : s6.free = true) (f7 : s7.free = true) : if good f s x = true then ∃ s6' s7' : Slot, stepL (uTup 2 (usCons (uName 4) (usCons (uName 5) usNil))) (D__law_is_row_b2 c) (.tup [.int s.t, .str (ltS x)]) [.val (grD f), v1, .val (.int s.run), .val (.int s.many), s4, s5, s6, s7] = .nx [.val (grD f), v1, .val (.int (rwF f s x).run), .val (.int (rwF f s x).many), .val (.int s.t), .val (.str (ltS x)), s6', s7'] ∧ s6'.free = true ∧ s7'.free = true else ∃ ρ', stepL (uTup 2 (usCons (uName 4) (usCons (uName 5) usNil))) (D__law_is_row_b2 c) (.tup [.int s.t, .str (ltS x)]) [.val (grD f), v1, .val (.int s.run), .val (.int s.many), s4, s5, s6, s7] = .rt (.val (.bl false)) ρ' := by
  have L := fact_loop (c := c) (t := s.t) (x := x) (v0 := .val (grD f)) (v1 := v1) (v2 := .val (.int s.run)) (v3 := .val (.int s.many)) (ks := f.ks) f6 f7
  unfold good
  by_cases h1 : (f.ks.all fun q => !(decide (q.1 = (s.t : Int)) && (q.2 == !(tkn x)))) = true
  · rw [if_pos h1] at L
    obtain ⟨s6', s7', L, g6, g7⟩ := L
    rw [h1, Bool.true_and]
    obtain ⟨t, run, many⟩ := s
    simp only [grD] at L ⊢
    cases x with
    | on =>
      by_cases h2 : run = 0
      · rw [if_neg (by simp [h2])]
        simp [ltS] at L
        exact ⟨[.val (grD f), v1, .val (.int run), .val (.int many), .val (.int t), .val (.str "on"), s6', s7'], by simp [D__law_is_row_b2, ltS, f4, f5, L, h2, grD] at L ⊢ <;> simp [L, h2]⟩
      · rw [if_pos (by simp [h2])]
        simp [ltS] at L
        exact ⟨s6', s7', by simp [D__law_is_row_b2, ltS, f4, f5, L, h2, rwF, isGo], g6, g7⟩
    | free =>
      by_cases h2 : 0 < run ∧ run < f.s
      · rw [if_neg (by simp [h2])]
        simp [ltS] at L
        exact ⟨[.val (grD f), v1, .val (.int run), .val (.int many), .val (.int t), .val (.str "free"), s6', s7'], by simp [D__law_is_row_b2, ltS, f4, f5, L, h2, grD]⟩
      · have h3 : (decide (0 < run) && decide (run < f.s)) = false := by
          rw [← Bool.decide_and]
          exact decide_eq_false h2
        rw [if_pos (by simp only [h3]; rfl)]
        simp [ltS] at L
        by_cases h4 : 0 < run
        · have h5 : ¬ run < f.s := fun h => h2 ⟨h4, h⟩
          exact ⟨s6', s7', by simp [D__law_is_row_b2, ltS, f4, f5, L, h4, h5, rwF, isGo], g6, g7⟩
        · exact ⟨s6', s7', by simp [D__law_is_row_b2, ltS, f4, f5, L, h4, rwF, isGo], g6, g7⟩
    | go p =>
      by_cases h2 : 0 < run ∧ run < f.s
      · rw [if_neg (by simp [h2])]
        cases p
        · simp [ltS] at L
          exact ⟨[.val (grD f), v1, .val (.int run), .val (.int many), .val (.int t), .val (.str "busy"), s6', s7'], by simp [D__law_is_row_b2, ltS, f4, f5, L, h2, grD]⟩
        · simp [ltS] at L
          exact ⟨[.val (grD f), v1, .val (.int run), .val (.int many), .val (.int t), .val (.str "private"), s6', s7'], by simp [D__law_is_row_b2, ltS, f4, f5, L, h2, grD]⟩
      · have h3 : (decide (0 < run) && decide (run < f.s)) = false := by
          rw [← Bool.decide_and]
          exact decide_eq_false h2
        have h6 : ¬ (0 < run ∧ run < f.s) := h2
        cases p
        · rw [if_pos (by simp only [h3]; rfl)]
          simp [ltS] at L
          by_cases h4 : 0 < run
          · have h5 : ¬ run < f.s := fun h => h2 ⟨h4, h⟩
            exact ⟨s6', s7', by simp [D__law_is_row_b2, ltS, f4, f5, L, h4, h5, rwF, isGo], g6, g7⟩
          · exact ⟨s6', s7', by simp [D__law_is_row_b2, ltS, f4, f5, L, h4, rwF, isGo], g6, g7⟩
        · simp [ltS] at L
          cases hp : f.p with
          | true =>
            rw [if_pos (by simp only [h3]; rfl)]
            simp [hp] at L
            by_cases h4 : 0 < run
            · have h5 : ¬ run < f.s := fun h => h2 ⟨h4, h⟩
              exact ⟨s6', s7', by simp [D__law_is_row_b2, ltS, f4, f5, L, h4, h5, rwF, isGo], g6, g7⟩
            · exact ⟨s6', s7', by simp [D__law_is_row_b2, ltS, f4, f5, L, h4, rwF, isGo], g6, g7⟩
          | false =>
            rw [if_neg (by simp)]
            simp [hp] at L
            refine ⟨[.val (.tup [.int f.n, .int f.s, moD f.m, .bl false, .tup (f.ks.map knD)]), v1, .val (.int run), .val (.int many), .val (.int t), .val (.str "private"), s6', s7'], ?_⟩
            by_cases h4 : 0 < run
            · have h5 : ¬ run < f.s := fun h => h2 ⟨h4, h⟩
              simp [D__law_is_row_b2, ltS, f4, f5, L, h4, h5]
            · simp [D__law_is_row_b2, ltS, f4, f5, L, h4]
  · have h1' : (f.ks.all fun q => !(decide (q.1 = (s.t : Int)) && (q.2 == !(tkn x)))) = false := Bool.eq_false_iff.mpr h1
    rw [if_neg h1] at L
    obtain ⟨ρ', L⟩ := L
    rw [h1', Bool.false_and, Bool.false_and, if_neg (by simp)]
    refine ⟨ρ', ?_⟩
    simp only [grD] at L ⊢
    simp [D__law_is_row_b2, f4, f5, L]
theorem row_loop {c : Cl} {f : Fr} {v1 : Slot} : ∀ {row : List Lt} {s : Rw} {s4 s5 s6 s7 : Slot}, s4.free = true → s5.free = true → s6.free = true → s7.free = true → match rws f row s with
    | none => ∃ ρ', forL (uTup 2 (usCons (uName 4) (usCons (uName 5) usNil))) (D__law_is_row_b2 c) (enumD s.t (row.map fun x => D.str (ltS x))) [.val (grD f), v1, .val (.int s.run), .val (.int s.many), s4, s5, s6, s7] = .rt (.val (.bl false)) ρ'
    | some s' => ∃ t4 t5 t6 t7 : Slot, forL (uTup 2 (usCons (uName 4) (usCons (uName 5) usNil))) (D__law_is_row_b2 c) (enumD s.t (row.map fun x => D.str (ltS x))) [.val (grD f), v1, .val (.int s.run), .val (.int s.many), s4, s5, s6, s7] = .nx [.val (grD f), v1, .val (.int s'.run), .val (.int s'.many), t4, t5, t6, t7]
  | [], s, s4, s5, s6, s7, f4, f5, f6, f7 => ⟨s4, s5, s6, s7, rfl⟩
  | x :: row, s, s4, s5, s6, s7, f4, f5, f6, f7 => by
    have st := row_step (c := c) (f := f) (v1 := v1) (s := s) (x := x) f4 f5 f6 f7
    rw [List.map_cons, enumD]
    unfold rws
    generalize hρ : [.val (grD f), v1, .val (.int s.run), .val (.int s.many), s4, s5, s6, s7] = ρ at st
    by_cases h : good f s x = true
    · rw [if_pos h] at st ⊢
      obtain ⟨a, b, st, ga, gb⟩ := st
      have ih := row_loop (c := c) (f := f) (v1 := v1) (row := row) (s := rwF f s x) (s4 := .val (.int s.t)) (s5 := .val (.str (ltS x))) (s6 := a) (s7 := b) rfl rfl ga gb
      have e : forL (uTup 2 (usCons (uName 4) (usCons (uName 5) usNil))) (D__law_is_row_b2 c) (.tup [.int s.t, .str (ltS x)] :: enumD (s.t + 1) (row.map fun x => D.str (ltS x))) ρ = forL (uTup 2 (usCons (uName 4) (usCons (uName 5) usNil))) (D__law_is_row_b2 c) (enumD (rwF f s x).t (row.map fun x => D.str (ltS x))) [.val (grD f), v1, .val (.int (rwF f s x).run), .val (.int (rwF f s x).many), .val (.int s.t), .val (.str (ltS x)), a, b] := by
        conv => lhs; unfold forL
        unfold stepL at st
        cases eU : uTup 2 (usCons (uName 4) (usCons (uName 5) usNil)) (.tup [.int s.t, .str (ltS x)]) ρ with
        | none => rw [eU] at st; cases st
        | some ρ1 =>
          rw [eU] at st
          simp only [st]
          rfl
      rw [e]
      exact ih
    · rw [if_neg h] at st ⊢
      obtain ⟨ρ', st⟩ := st
      refine ⟨ρ', ?_⟩
      unfold forL
      unfold stepL at st
      cases eU : uTup 2 (usCons (uName 4) (usCons (uName 5) usNil)) (.tup [.int s.t, .str (ltS x)]) ρ with
      | none => rw [eU] at st; cases st
      | some ρ1 =>
        rw [eU] at st
        simp only [st]
theorem is_row_v {c : Cl} {f : Fr} {row : List Lt} : Gives 8 (D__law_is_row c) [grD f, .lst (row.map fun x => D.str (ltS x))] (.val (.bl (isRow f row))) := by
  have L := row_loop (c := c) (f := f) (v1 := .val (.lst (row.map fun x => D.str (ltS x)))) (row := row) (s := ⟨0, 0, 0⟩) (s4 := .none) (s5 := .none) (s6 := .none) (s7 := .none) rfl rfl rfl rfl
  unfold isRow
  generalize (row.map fun x => D.str (ltS x)) = R at L ⊢
  cases e : rws f row ⟨0, 0, 0⟩ with
  | none =>
    rw [e] at L
    obtain ⟨ρ', L⟩ := L
    simp at L
    simp [Gives, D__law_is_row, dEnum2, L]
  | some s' =>
    rw [e] at L
    obtain ⟨a, b, d, g, L⟩ := L
    cases hm : f.m with
    | none =>
      simp [grD, hm, moD] at L
      simp [Gives, D__law_is_row, dEnum2, L, grD, hm, moD, topOk]
    | some m =>
      simp [grD, hm, moD] at L
      simp [Gives, D__law_is_row, dEnum2, L, grD, hm, moD, topOk]
end DL
set_option linter.all false
set_option maxRecDepth 100000
set_option maxHeartbeats 1000000
namespace DL
open PySem PySem.Spec PyProof.Rows L2 DD
theorem cutD_drop {xs : List D} : cutD xs none (some (-1)) = xs.dropLast := by
  unfold cutD
  rw [List.dropLast_eq_take]
  simp [HT.sIx]
  congr 1
  omega
def seP (x : Int × Int) : PyData := .tuple [.int x.1, .int x.2]
theorem se_pyA : ∀ L : List (Int × Int), D.pyA (L.map seD) = some (L.map seP)
  | [] => rfl
  | x :: L => by
    rw [List.map_cons, List.map_cons]
    have : (seD x).py = some (seP x) := rfl
    simp only [D.pyA, this, se_pyA L]
theorem se_lay : ∀ L : List (Int × Int), PyData.canLayAll0 (L.map seP) = true
  | [] => rfl
  | x :: L => by
    rw [List.map_cons]
    have : (seP x).canLay0 = true := rfl
    simp only [PyData.canLayAll0, this, se_lay L, Bool.and_self]
theorem se_dep : ∀ L : List (Int × Int), PyData.depthAll (L.map seP) ≤ 5
  | [] => by simp [PyData.depthAll]
  | x :: L => by
    rw [List.map_cons]
    simp only [PyData.depthAll]
    have := se_dep L
    have : (seP x).depth ≤ 5 := by simp [seP, PyData.depth, PyData.depthAll]
    omega
theorem se_eqv : ∀ A B : List (Int × Int), PyData.eqvAll (A.map seP) (B.map seP) = decide (A = B)
  | [], [] => by simp [PyData.eqvAll]
  | [], y :: B => by simp [PyData.eqvAll]
  | x :: A, [] => by simp [PyData.eqvAll]
  | x :: A, y :: B => by
    rw [List.map_cons, List.map_cons]
    simp only [PyData.eqvAll, se_eqv A B]
    rw [Bool.eq_iff_iff]
    simp [seP, PyData.eqv, PyData.eqvAll, Prod.ext_iff]
theorem eqB_lse {A B : List (Int × Int)} : eqB (.lst (A.map seD)) (.lst (B.map seD)) = some (decide (A = B)) := by
  have hs : ∀ L : List (Int × Int), SeqAt.shaped (.list (L.map seP)) = true := fun L => by
    unfold SeqAt.shaped
    simp only [PyData.canLay0, se_lay L, Bool.true_and, PyData.depth]
    have := se_dep L
    simp
    omega
  have h : ∀ L : List (Int × Int), (D.lst (L.map seD)).py = some (.list (L.map seP)) := fun L => by simp only [D.py, se_pyA L, Option.map]
  show (match (D.lst (A.map seD)).py, (D.lst (B.map seD)).py with
    | some p, some q => if SeqAt.shaped p = true ∧ SeqAt.shaped q = true then some (PyData.eqv p q) else none
    | _, _ => match D.lst (A.map seD), D.lst (B.map seD) with
      | .lst ds, .lst es => if ds.length = es.length then none else some false
      | _, _ => none) = _
  rw [h, h]
  show (if SeqAt.shaped (.list (A.map seP)) = true ∧ SeqAt.shaped (.list (B.map seP)) = true then some (PyData.eqv (.list (A.map seP)) (.list (B.map seP))) else none) = _
  rw [if_pos ⟨hs A, hs B⟩, ← se_eqv A B]
  rfl
/-- the law's tally -/
def partT (l : Lk) (w : Bool) (ms : List Mt) : Option Ty :=
  if (jnd l.1 w ms).dropLast.filterMap (cutOf l.1) = (spn w l.2).take ((jnd l.1 w ms).dropLast.filterMap (cutOf l.1)).length then some (((jnd l.1 w ms).dropLast.filterMap (cutOf l.1)).length, (jnd l.1 w ms).getLast?) else none
theorem part_step {c : Cl} {r : Ru} {x : Int × Int} (hx : x.1 < x.2) {A : List (Int × Int)} (hz : A.length < 10000) {v1 v2 v3 v4 s6 s7 s8 s9 : Slot} (f6 : s6.free = true) (f7 : s7.free = true) (f8 : s8.free = true) : ∃ t8 : Slot, stepL (uTup 2 (usCons (uName 6) (usCons (uName 7) usNil))) (D__law_part_b1 c) (seD x) [.val (ruD r), v1, v2, v3, v4, .own (.lst (A.map seD)), s6, s7, s8, s9] = .nx [.val (ruD r), v1, v2, v3, v4, .own (.lst ((A ++ (cutOf r x).toList).map seD)), .val (.int x.1), .val (.int x.2), t8, s9] ∧ t8.free = true := by
  have z1 : A.length + 1 ≤ 16777216 := by omega
  have z0 : A.length ≤ 16777216 := by omega
  by_cases h : x.2 - x.1 < r.l
  · have h' : ¬ r.l ≤ x.2 - x.1 := by omega
    exact ⟨s8, by simp [D__law_part_b1, seD, ruD, f6, f7, f8, h, h', cutOf], f8⟩
  · have h' : r.l ≤ x.2 - x.1 := by omega
    cases hh : r.h with
    | none =>
      refine ⟨.val (seD x), ?_, rfl⟩
      simp [D__law_part_b1, seD, ruD, f6, f7, f8, h, h', cutOf, hh, hoD, hx, z1]
    | some y =>
      refine ⟨.val (seD (mx x.1 y.1, mn x.2 y.2)), ?_, rfl⟩
      by_cases h2 : mx x.1 y.1 < mn x.2 y.2
      · have h3 := h2
        unfold mx mn at h3
        simp [D__law_part_b1, seD, ruD, f6, f7, f8, h, h', cutOf, hh, hoD, h2, h3, z1, mx, mn]
      · have h3 := h2
        unfold mx mn at h3
        simp [D__law_part_b1, seD, ruD, f6, f7, f8, h, h', cutOf, hh, hoD, h2, h3, z0, mx, mn]
theorem part_loop {c : Cl} {r : Ru} {v1 v2 v3 v4 s9 : Slot} : ∀ {J A : List (Int × Int)} {s6 s7 s8 : Slot}, (∀ x ∈ J, x.1 < x.2) → A.length + J.length < 10000 → s6.free = true → s7.free = true → s8.free = true → ∃ t6 t7 t8 : Slot, forL (uTup 2 (usCons (uName 6) (usCons (uName 7) usNil))) (D__law_part_b1 c) (J.map seD) [.val (ruD r), v1, v2, v3, v4, .own (.lst (A.map seD)), s6, s7, s8, s9] = .nx [.val (ruD r), v1, v2, v3, v4, .own (.lst ((A ++ J.filterMap (cutOf r)).map seD)), t6, t7, t8, s9]
  | [], A, s6, s7, s8, _, _, _, _, _ => ⟨s6, s7, s8, by simp [forL]⟩
  | x :: J, A, s6, s7, s8, hJ, hz, f6, f7, f8 => by
    obtain ⟨a, st, ga⟩ := part_step (c := c) (r := r) (hJ x (by simp)) (A := A) (by omega) (v1 := v1) (v2 := v2) (v3 := v3) (v4 := v4) (s9 := s9) f6 f7 f8
    have hl : (cutOf r x).toList.length ≤ 1 := by cases cutOf r x <;> simp
    obtain ⟨t6, t7, t8, e⟩ := part_loop (c := c) (r := r) (v1 := v1) (v2 := v2) (v3 := v3) (v4 := v4) (s9 := s9) (J := J) (A := A ++ (cutOf r x).toList) (s6 := .val (.int x.1)) (s7 := .val (.int x.2)) (s8 := a) (fun y hy => hJ y (by simp [hy])) (by simp at hz ⊢; omega) rfl rfl ga
    refine ⟨t6, t7, t8, ?_⟩
    have e2 : A ++ (cutOf r x).toList ++ J.filterMap (cutOf r) = A ++ (x :: J).filterMap (cutOf r) := by
      cases h : cutOf r x <;> simp [List.filterMap_cons, h]
    rw [← e2, ← e, List.map_cons]
    generalize hρ : [.val (ruD r), v1, v2, v3, v4, .own (.lst (A.map seD)), s6, s7, s8, s9] = ρ at st
    conv => lhs; unfold forL
    unfold stepL at st
    cases eU : uTup 2 (usCons (uName 6) (usCons (uName 7) usNil)) (seD x) ρ with
    | none => rw [eU] at st; cases st
    | some ρ1 =>
      rw [eU] at st
      simp only [st]
theorem part_v {c : Cl} {l : Lk} (h : LkOk l) {ms : List Mt} (hm : Meets 0 ms) (hn : endOf 0 ms ≤ 70) {w : Bool} : Gives 10 (D__law_part c) [ruD l.1, .tup (l.2.map bkD), .lst (ms.map mtD), .str (wd w)] (.val (otD (partT l w ms))) := by
  have hml := meets_len hm
  have hz : ms.length ≤ 1000 := by omega
  obtain ⟨_, p1⟩ := (runs2_v (c := c) h.r hm hn hz (w := w)).elim
  have hS := flat_up h.r hn (painted2_v (c := c) h.r hm hn (w := w)).2
  have hl := jnd_len (r := l.1) (w := w) (ms := ms)
  unfold partT
  generalize jnd l.1 w ms = J at p1 hS hl
  have hJ : ∀ x ∈ J.dropLast, x.1 < x.2 := fun x hx => (hS.one x ((List.dropLast_subset J) hx)).2.1
  have hdl : J.dropLast.length ≤ J.length := by simp
  obtain ⟨t6, t7, t8, e⟩ := part_loop (c := c) (r := l.1) (v1 := .val (.tup (l.2.map bkD))) (v2 := .val (.lst (ms.map mtD))) (v3 := .val (.str (wd w))) (v4 := .own (.lst (J.map seD))) (s9 := .none) (J := J.dropLast) (A := []) (s6 := .none) (s7 := .none) (s8 := .none) hJ (by simp; omega) rfl rfl rfl
  rw [List.nil_append] at e
  have ed : cutD (J.map seD) none (some (-1)) = J.dropLast.map seD := by rw [cutD_drop, List.map_dropLast]
  obtain ⟨Bh, hB⟩ : ∃ Bh, J.dropLast.filterMap (cutOf l.1) = Bh := ⟨_, rfl⟩
  rw [hB] at e ⊢
  have hBl : Bh.length ≤ 1000 := by
    have := List.length_filterMap_le (cutOf l.1) J.dropLast
    rw [← hB]
    omega
  have L := lc_fm (vs := [9]) (U := uName 9) (T := dTest (dBin opEq (dBin opIx (dVar 9) (dC (.int 2))) (dVar 3))) (A := dSl (dVar 9) oNone (oSome (dC (.int 2)))) (enc := bkD) (fun b => if b.2.2 = w then some (seD (b.1, b.2.1)) else none) (ρ := [.val (ruD l.1), .val (.tup (l.2.map bkD)), .val (.lst (ms.map mtD)), .val (.str (wd w)), .own (.lst (J.map seD)), .own (.lst (Bh.map seD)), t6, t7, t8, .none]) (L := l.2) (acc := []) (fun b hb ds acc ha => by
    have ha' : acc.length < 16777216 := by omega
    have ct : cutD [.int b.1, .int b.2.1, .str (wd b.2.2)] none (some 2) = [.int b.1, .int b.2.1] := rfl
    by_cases e : b.2.2 = w
    · rw [e] at ct
      simp [lcL, bkD, wd_eq, e, ha', seD, ct]
    · simp [lcL, bkD, wd_eq, e]) (by have := h.v.z; simp; omega)
  have es : l.2.filterMap (fun b => if b.2.2 = w then some (seD (b.1, b.2.1)) else none) = (spn w l.2).map seD := by
    unfold spn
    generalize l.2 = V
    induction V with
    | nil => rfl
    | cons b V ih => by_cases e : b.2.2 = w <;> simp [e, ih]
  rw [es] at L
  have ct2 : cutD ((spn w l.2).map seD) none (some (Bh.length : Int)) = ((spn w l.2).take Bh.length).map seD := by rw [cutD_to, List.map_take]
  have en := eqB_lse (A := Bh) (B := (spn w l.2).take Bh.length)
  have en2 := eqB_se_nil J
  obtain ⟨K, hK⟩ : ∃ K, ((spn w l.2).take Bh.length) = K := ⟨_, rfl⟩
  rw [hK] at ct2 en ⊢
  have hr : ruD l.1 = .tup [.int l.1.s, .int l.1.g, .int l.1.l, .str l.1.p, hoD l.1.h] := rfl
  obtain ⟨R, hR⟩ : ∃ R, ruD l.1 = R := ⟨_, rfl⟩
  rw [hR] at p1 e L ⊢
  simp at p1 e L
  by_cases hk : Bh = K
  · rw [if_pos hk]
    simp only [hk, decide_true] at en ct2 L e ⊢
    rcases List.eq_nil_or_concat J with hJ0 | ⟨J', y, hJ0⟩
    · subst hJ0
      simp at en2 e L ed p1
      simp [Gives, D__law_part, p1, ed, e, lcAll, L, ct2, en, en2, otD, tyD, cuD]
    · rw [List.concat_eq_append] at hJ0
      subst hJ0
      have hE : (J' ++ [y]).isEmpty = false := by cases J' <;> rfl
      rw [hE] at en2
      simp at en2 e L ed p1
      simp [Gives, D__law_part, p1, ed, e, lcAll, L, ct2, en, en2, otD, tyD, cuD]
  · rw [if_neg hk]
    simp only [hk, decide_false] at en
    simp [Gives, D__law_part, p1, ed, e, lcAll, L, ct2, en, otD]
end DL
set_option linter.all false
set_option maxRecDepth 100000
set_option maxHeartbeats 1000000
namespace DL
open PySem PySem.Spec PyProof.Rows L2 DD
structure RI (row : List Lt) (s : Rw) : Prop where
  t : s.t = row.length
  t2 : (rd row).t = row.length
  run : s.run = match (rd row).o with
    | none => 0
    | some x => (row.length : Int) - x.1
  many : s.many = ((rd row).ms.length : Int) + (clo (rd row).t (rd row).o).length
  opn : ∀ x, (rd row).o = some x → 0 ≤ x.1 ∧ x.1 < row.length ∧ endOf 0 (rd row).ms ≤ x.1
  fin : endOf 0 (rd row).ms ≤ row.length
  meets : Meets 0 (rd row).ms
  last : ∀ r' x, row = r' ++ [x] → ((rd row).o = none ↔ x = .free)
theorem RI.nil : RI [] ⟨0, 0, 0⟩ := ⟨rfl, rfl, rfl, rfl, fun x e => (by cases e), (by show (0 : Int) ≤ 0; omega), trivial, fun r' x e => by cases r' <;> cases e⟩
theorem RI.step {f : Fr} {row : List Lt} {s : Rw} {x : Lt} (h : RI row s) (g : good f s x = true) : RI (row ++ [x]) (rwF f s x) := by
  have ht := h.t2
  have h3 := h.run
  have h4 := h.many
  have h5 := h.opn
  have h6 := h.fin
  have h7 := h.meets
  have hl : ∀ r' y, row ++ [x] = r' ++ [y] → y = x := fun r' y e => by
    have := List.append_inj_right' e rfl
    simpa using this.symm
  have hd : rd (row ++ [x]) = rdF (rd row) x := rd_snoc
  have ht' : (rd (row ++ [x])).t = (row ++ [x]).length := by rw [hd, rdF_t, ht]; simp
  have hs' : (rwF f s x).t = (row ++ [x]).length := by
    show s.t + 1 = _
    rw [h.t]
    simp
  obtain ⟨R, hR⟩ : ∃ R, rd row = R := ⟨_, rfl⟩
  rw [hR] at hd ht h3 h4 h5 h6 h7
  obtain ⟨t, ms, o⟩ := R
  dsimp only at ht h3 h4 h5 h6 h7
  subst ht
  have cl : Meets 0 (ms ++ clo row.length o) ∧ endOf 0 (ms ++ clo row.length o) ≤ (row.length : Int) := by
    cases o with
    | none => simp [clo]; exact ⟨h7, h6⟩
    | some y =>
      obtain ⟨a1, a2, a3⟩ := h5 y rfl
      have sn := h7.snoc (m := (y.1, (row.length : Int), y.2)) a3 a2
      refine ⟨sn.1, ?_⟩
      show endOf 0 (ms ++ [(y.1, (row.length : Int), y.2)]) ≤ _
      rw [sn.2]
      exact Int.le_refl _
  cases x with
  | on =>
    have ho : ∃ y, o = some y := by
      cases o with
      | some y => exact ⟨y, rfl⟩
      | none =>
        simp [good, h3] at g
    obtain ⟨y, rfl⟩ := ho
    obtain ⟨a1, a2, a3⟩ := h5 y rfl
    dsimp only at h3
    refine ⟨hs', ht', ?_, ?_, ?_, ?_, ?_, ?_⟩
    · rw [hd]
      have e1 : ((row ++ [Lt.on]).length : Int) = row.length + 1 := by simp
      show s.run + 1 = ((row ++ [Lt.on]).length : Int) - y.1
      have h3' : s.run = (row.length : Int) - y.1 := h3
      rw [h3', e1]
      omega
    · rw [hd]
      simp [rwF, isGo, rdF, h4, clo]
    · intro z hz
      rw [hd] at hz ⊢
      simp [rdF] at hz ⊢
      subst hz
      exact ⟨a1, by omega, a3⟩
    · rw [hd]
      simp [rdF]
      omega
    · rw [hd]
      exact h7
    · intro r' z e
      rw [hd, hl r' z e]
      simp [rdF]
  | free =>
    refine ⟨hs', ht', ?_, ?_, ?_, ?_, ?_, ?_⟩
    · rw [hd]
      rfl
    · rw [hd]
      simp [rwF, isGo, rdF, h4, clo]
    · intro z hz
      rw [hd] at hz
      simp [rdF] at hz
    · rw [hd]
      have := cl.2
      simp [rdF]
      omega
    · rw [hd]
      exact cl.1
    · intro r' z e
      rw [hd, hl r' z e]
      simp [rdF]
  | go p =>
    refine ⟨hs', ht', ?_, ?_, ?_, ?_, ?_, ?_⟩
    · rw [hd]
      have e1 : ((row ++ [Lt.go p]).length : Int) = row.length + 1 := by simp
      show (1 : Int) = ((row ++ [Lt.go p]).length : Int) - (row.length : Int)
      rw [e1]
      generalize (row.length : Int) = n
      omega
    · rw [hd]
      simp [rwF, isGo, rdF, h4, clo]
    · intro z hz
      rw [hd] at hz ⊢
      simp [rdF] at hz ⊢
      subst hz
      refine ⟨by show (0 : Int) ≤ (row.length : Int); omega, by show (row.length : Int) < (row.length : Int) + 1; omega, cl.2⟩
    · rw [hd]
      have := cl.2
      simp [rdF]
      omega
    · rw [hd]
      exact cl.1
    · intro r' z e
      rw [hd, hl r' z e]
      simp [rdF]
theorem RI.of {f : Fr} : ∀ {row : List Lt} {s : Rw}, rws f row ⟨0, 0, 0⟩ = some s → RI row s := by
  intro row
  generalize hn : row.length = n
  induction n generalizing row with
  | zero =>
    intro s e
    rw [List.length_eq_zero_iff.mp hn] at e ⊢
    cases e
    exact RI.nil
  | succ n ih =>
    intro s e
    rcases List.eq_nil_or_concat row with rfl | ⟨r, x, rfl⟩
    · cases hn
    · rw [List.concat_eq_append] at e hn ⊢
      rw [rws_snoc] at e
      cases e1 : rws f r ⟨0, 0, 0⟩ with
      | none => rw [e1] at e; cases e
      | some s' =>
        rw [e1] at e
        dsimp only at e
        by_cases g : good f s' x = true
        · rw [if_pos g] at e
          cases e
          exact (ih (by simpa using hn) e1).step g
        · rw [if_neg g] at e
          cases e
theorem RI.readL {row : List Lt} {s : Rw} (h : RI row s) : Meets 0 (readL row) ∧ endOf 0 (readL row) ≤ row.length := by
  unfold DL.readL
  rw [h.t2]
  cases ho : (rd row).o with
  | none =>
    simp [clo]
    exact ⟨h.meets, h.fin⟩
  | some y =>
    obtain ⟨a1, a2, a3⟩ := h.opn y ho
    have sn := h.meets.snoc (m := (y.1, (row.length : Int), y.2)) a3 a2
    refine ⟨sn.1, ?_⟩
    show endOf 0 ((rd row).ms ++ [(y.1, (row.length : Int), y.2)]) ≤ _
    rw [sn.2]
    exact Int.le_refl _
/-- the law's parts of all looks -/
def both (a b : Option Ty) (r : Option (List (Ty × Ty))) : Option (List (Ty × Ty)) := match a, b with
  | some a, some b => r.map ((a, b) :: ·)
  | _, _ => none
theorem both_none {a b : Option Ty} {r : Option (List (Ty × Ty))} (h : a = none ∨ b = none) : both a b r = none := by
  rcases h with rfl | rfl
  · rfl
  · cases a <;> rfl
def allP (ms : List Mt) : List Lk → Option (List (Ty × Ty))
  | [] => some []
  | l :: Ls => both (partT l false ms) (partT l true ms) (allP ms Ls)
/-- the law's standing -/
def standT (f : Fr) (Ls : List Lk) (row : List Lt) : Option St := if isRow f row = true then (match allP (readL row) Ls with
    | none => none
    | some ts => some ⟨(match (rd row).o with
        | none => ""
        | some x => wd x.2), (match (rd row).o with
        | none => 0
        | some x => mn f.s ((row.length : Int) - x.1)), (match f.m with
        | none => 0
        | some _ => (readL row).length), ts⟩) else none
end DL
set_option linter.all false
set_option maxRecDepth 100000
set_option maxHeartbeats 1000000
namespace DL
open PySem PySem.Spec PyProof.Rows L2 DD
def cuP : Option (Int × Int) → PyData
  | none => .none
  | some x => seP x
def otP : Option Ty → PyData
  | none => .none
  | some t => .tuple [.int t.1, cuP t.2]
theorem otD_py {o : Option Ty} : (otD o).py = some (otP o) := by
  cases o with
  | none => rfl
  | some t =>
    obtain ⟨n, o⟩ := t
    cases o <;> rfl
theorem otP_lay {o : Option Ty} : (otP o).canLay0 = true := by
  cases o with
  | none => rfl
  | some t =>
    obtain ⟨n, o⟩ := t
    cases o <;> rfl
theorem otP_dep {o : Option Ty} : (otP o).depth ≤ 10 := by
  cases o with
  | none => simp [otP, PyData.depth]
  | some t =>
    obtain ⟨n, o⟩ := t
    cases o <;> simp [otP, cuP, seP, PyData.depth, PyData.depthAll]
theorem otP_non {o : Option Ty} : PyData.eqv (otP o) .none = decide (o = none) := by
  cases o with
  | none => rfl
  | some t => simp [otP, PyData.eqv]
theorem in_non {a b : Option Ty} : opInB .non (.tup [otD a, otD b]) = some (decide (a = none ∨ b = none)) := by
  have hp : D.pyA [otD a, otD b] = some [otP a, otP b] := by simp only [D.pyA, otD_py]
  have hs : SeqAt.shaped (.tuple [otP a, otP b]) = true := by
    unfold SeqAt.shaped
    have h1 := otP_dep (o := a)
    have h2 := otP_dep (o := b)
    simp [PyData.canLay0, PyData.canLayAll0, otP_lay, PyData.depth, PyData.depthAll]
    omega
  have hn : SeqAt.shaped PyData.none = true := rfl
  have ha : ([otP a, otP b].any fun z => PyData.eqv z PyData.none) = decide (a = none ∨ b = none) := by
    simp only [List.any_cons, List.any_nil, otP_non, Bool.or_false, Bool.decide_or]
  unfold opInB
  simp only [D.items]
  by_cases hf : D.flat .non = true ∧ ([otD a, otD b].all D.flat) = true
  · rw [if_pos hf]
    cases a with
    | none => cases b with
      | none => rfl
      | some t => exact absurd hf.2 (by simp [otD, tyD, D.flat])
    | some t => exact absurd hf.2 (by simp [otD, tyD, D.flat])
  · rw [if_neg hf]
    have h1 : D.py .non = some PyData.none := rfl
    simp only [h1, hp]
    rw [if_pos ⟨hn, hs⟩, ha]
theorem stand_loop {c : Cl} {ms : List Mt} (hm : Meets 0 ms) (hn : endOf 0 ms ≤ 70) {v0 v1 v2 : Slot} : ∀ {Ls : List Lk} {acc : List (Ty × Ty)} {v7 s9 s10 s11 : Slot}, (v7 = .own (.lst (ms.map mtD)) ∨ v7 = .val (.lst (ms.map mtD))) → (∀ l ∈ Ls, LkOk l) → acc.length + Ls.length ≤ 2000 → s9.free = true → s10.free = true → s11.free = true → match allP ms Ls with
    | none => ∃ ρ', forL (uTup 2 (usCons (uName 9) (usCons (uName 10) usNil))) (D__law_standing_b1 c) (Ls.map lkD) [v0, v1, v2, .none, .none, .none, .none, v7, .own (.lst (acc.map tpD)), s9, s10, s11, .none] = .rt (.val .non) ρ'
    | some us => ∃ v7' t9 t10 t11 : Slot, (v7' = .own (.lst (ms.map mtD)) ∨ v7' = .val (.lst (ms.map mtD))) ∧ forL (uTup 2 (usCons (uName 9) (usCons (uName 10) usNil))) (D__law_standing_b1 c) (Ls.map lkD) [v0, v1, v2, .none, .none, .none, .none, v7, .own (.lst (acc.map tpD)), s9, s10, s11, .none] = .nx [v0, v1, v2, .none, .none, .none, .none, v7', .own (.lst ((acc ++ us).map tpD)), t9, t10, t11, .none]
  | [], acc, v7, s9, s10, s11, hv, _, _, _, _, _ => ⟨v7, s9, s10, s11, hv, by simp [forL]⟩
  | l :: Ls, acc, v7, s9, s10, s11, hv, h, hz, f9, f10, f11 => by
    obtain ⟨_, p1⟩ := (part_v (c := c) (h l (by simp)) hm hn (w := false)).elim
    obtain ⟨_, p2⟩ := (part_v (c := c) (h l (by simp)) hm hn (w := true)).elim
    have z : acc.length < 16777216 := by simp at hz; omega
    have inn := in_non (a := partT l false ms) (b := partT l true ms)
    obtain ⟨R, hR⟩ : ∃ R, ruD l.1 = R := ⟨_, rfl⟩
    obtain ⟨V, hV⟩ : ∃ V, D.tup (l.2.map bkD) = V := ⟨_, rfl⟩
    have hlk : lkD l = .tup [R, V] := by rw [lkD, hR, hV]
    rw [hR, hV] at p1 p2
    simp at p1 p2
    rw [List.map_cons, hlk]
    unfold allP
    generalize partT l false ms = a at p1 inn
    generalize partT l true ms = b at p2 inn
    by_cases hab : a = none ∨ b = none
    · rw [both_none hab]
      simp only [hab, decide_true] at inn
      refine ⟨[v0, v1, v2, .none, .none, .none, .none, .val (.lst (ms.map mtD)), .own (.lst (acc.map tpD)), .val R, .val V, .val (.tup [otD a, otD b]), .none], ?_⟩
      rcases hv with rfl | rfl <;> simp [-opIn, opIn, forL, D__law_standing_b1, f9, f10, f11, lcAll, lcL, p1, p2, inn]
    · obtain ⟨x, rfl⟩ : ∃ x, a = some x := by
        cases a with
        | none => exact absurd (.inl rfl) hab
        | some x => exact ⟨x, rfl⟩
      obtain ⟨y, rfl⟩ : ∃ y, b = some y := by
        cases b with
        | none => exact absurd (.inr rfl) hab
        | some y => exact ⟨y, rfl⟩
      simp only [hab, decide_false] at inn
      have ih := stand_loop (c := c) hm hn (v0 := v0) (v1 := v1) (v2 := v2) (Ls := Ls) (acc := acc ++ [(x, y)]) (v7 := .val (.lst (ms.map mtD))) (s9 := .val R) (s10 := .val V) (s11 := .val (.tup [tyD x, tyD y])) (.inr rfl) (fun z hz => h z (by simp [hz])) (by simp at hz ⊢; omega) rfl rfl rfl
      have st : ∀ Z, forL (uTup 2 (usCons (uName 9) (usCons (uName 10) usNil))) (D__law_standing_b1 c) (Ls.map lkD) [v0, v1, v2, .none, .none, .none, .none, .val (.lst (ms.map mtD)), .own (.lst ((acc ++ [(x, y)]).map tpD)), .val R, .val V, .val (.tup [tyD x, tyD y]), .none] = Z → forL (uTup 2 (usCons (uName 9) (usCons (uName 10) usNil))) (D__law_standing_b1 c) (.tup [R, V] :: Ls.map lkD) [v0, v1, v2, .none, .none, .none, .none, v7, .own (.lst (acc.map tpD)), s9, s10, s11, .none] = Z := fun Z hZ => by
        rw [← hZ]
        obtain ⟨X, hX⟩ : ∃ X, tyD x = X := ⟨_, rfl⟩
        obtain ⟨Y, hY⟩ : ∃ Y, tyD y = Y := ⟨_, rfl⟩
        have hxy : tpD (x, y) = .tup [X, Y] := by rw [tpD, hX, hY]
        simp only [otD, hX, hY] at p1 p2 inn ⊢
        rw [List.map_append, List.map_cons, List.map_nil, hxy]
        generalize Ls.map lkD = M
        rcases hv with rfl | rfl <;> simp [-opIn, opIn, forL, D__law_standing_b1, f9, f10, f11, lcAll, lcL, p1, p2, inn, z]
      have hb : both (some x) (some y) (allP ms Ls) = (allP ms Ls).map ((x, y) :: ·) := rfl
      rw [hb]
      cases em : allP ms Ls with
      | none =>
        rw [em] at ih
        obtain ⟨ρ', ih⟩ := ih
        exact ⟨ρ', st _ ih⟩
      | some us =>
        rw [em] at ih
        obtain ⟨a7, a9, a10, a11, h7, ih⟩ := ih
        refine ⟨a7, a9, a10, a11, h7, ?_⟩
        rw [st _ ih]
        simp
end DL
set_option linter.all false
set_option maxRecDepth 100000
set_option maxHeartbeats 1000000
namespace DL
open PySem PySem.Spec PyProof.Rows L2 DD
def lts (row : List Lt) : List D := row.map fun x => D.str (ltS x)
theorem is_row_v' {c : Cl} {f : Fr} {row : List Lt} : Gives 8 (D__law_is_row c) [grD f, .lst (lts row)] (.val (.bl (isRow f row))) := is_row_v
theorem read_v' {c : Cl} {row : List Lt} (hz : row.length < 5000) : Gives 6 (D__law_read c) [.lst (lts row)] (.new (.lst ((readL row).map mtD))) := read_v hz
theorem eqB_lts_nil (L : List Lt) : eqB (.lst (lts L)) (.lst []) = some L.isEmpty := eqB_lst_nil (key := fun x => PyData.str (ltS x)) (fun _ => rfl) (fun x => by
  cases x with
  | free => decide +kernel
  | on => decide +kernel
  | go p => cases p <;> decide +kernel) (fun b => by simp [PyData.depth]) L
theorem lt_free {x : Lt} : (ltS x = Str.ofString "free") = (x = .free) := by
  cases x with
  | free => simp [ltS]
  | on => simp [ltS]
  | go p => cases p <;> simp [ltS]
theorem standing_v {c : Cl} {f : Fr} {Ls : List Lk} (h : ∀ l ∈ Ls, LkOk l) (hl : Ls.length ≤ 1000) {row : List Lt} (hn : row.length ≤ 70) : Gives 13 (D__law_standing c) [grD f, .lst (Ls.map lkD), .lst (lts row)] (.val (osD (standT f Ls row))) := by
  obtain ⟨_, p1⟩ := (is_row_v' (c := c) (f := f) (row := row)).elim
  obtain ⟨_, p2⟩ := (read_v' (c := c) (row := row) (by omega)).elim
  have en := eqB_lts_nil row
  have hLz : (Ls.map lkD).length ≤ 1000 := by simpa using hl
  unfold standT
  cases hr : isRow f row with
  | false =>
    rw [hr] at p1
    simp at p1
    simp [Gives, D__law_standing, p1, osD]
  | true =>
    rw [hr] at p1
    have hr2 := hr
    unfold isRow at hr2
    cases hw : rws f row ⟨0, 0, 0⟩ with
    | none => rw [hw] at hr2; cases hr2
    | some s =>
      have ri := RI.of hw
      obtain ⟨rm, re⟩ := ri.readL
      have L := stand_loop (c := c) rm (by omega) (v0 := .val (grD f)) (v1 := .val (.lst (Ls.map lkD))) (v2 := .val (.lst (lts row))) (Ls := Ls) (acc := []) (v7 := .own (.lst ((readL row).map mtD))) (s9 := .none) (s10 := .none) (s11 := .none) (.inl rfl) h (by simp; omega) rfl rfl rfl
      rw [if_pos rfl]
      cases ha : allP (readL row) Ls with
      | none =>
        rw [ha] at L
        obtain ⟨ρ', L⟩ := L
        generalize lts row = R at *
        simp at p1 p2 L
        simp [Gives, D__law_standing, p1, p2, L, osD]
      | some ts =>
        rw [ha] at L
        obtain ⟨v7, t9, t10, t11, h7, L⟩ := L
        have htl : ts.length ≤ 16777216 := by
          have : ∀ {ms : List Mt} {Ls : List Lk} {ts : List (Ty × Ty)}, allP ms Ls = some ts → ts.length = Ls.length := by
            intro ms Ls
            induction Ls with
            | nil => intro ts e; cases e; rfl
            | cons l Ls ih =>
              intro ts e
              unfold allP at e
              cases e1 : partT l false ms with
              | none => rw [both_none (.inl e1)] at e; cases e
              | some a =>
                cases e2 : partT l true ms with
                | none => rw [both_none (.inr e2)] at e; cases e
                | some b =>
                  rw [e1, e2] at e
                  cases e3 : allP ms Ls with
                  | none => rw [e3] at e; cases e
                  | some us =>
                    rw [e3] at e
                    cases e
                    simp [ih e3]
          have := this ha
          omega
        rcases List.eq_nil_or_concat row with rfl | ⟨r', x, hx⟩
        · have e1 : readL [] = [] := rfl
          have e2 : (rd []).o = none := rfl
          rw [e2]
          simp at p1 p2 L en
          cases hm : f.m with
          | none =>
            simp [grD, hm, moD] at p1 L
            rcases h7 with rfl | rfl <;> simp [Gives, D__law_standing, p1, p2, L, osD, en, grD, hm, moD, htl, stD]
          | some m =>
            simp [grD, hm, moD] at p1 L
            rcases h7 with rfl | rfl <;> simp [Gives, D__law_standing, p1, p2, L, osD, en, grD, hm, moD, htl, stD] <;> rfl
        · rw [List.concat_eq_append] at hx
          have hE : row.isEmpty = false := by rw [hx]; cases r' <;> rfl
          rw [hE] at en
          have hla : atI (lts row) (-1) = some (.str (ltS x)) := by
            rw [hx]
            simp [lts]
          have hlast := ri.last r' x hx
          by_cases hf : x = .free
          · have ho := hlast.mpr hf
            rw [ho]
            have hxf : ltS x = Str.ofString "free" := by rw [hf]; rfl
            rw [hxf] at hla
            generalize lts row = R at *
            generalize readL row = M at *
            simp at p1 p2 L
            cases hm : f.m with
            | none =>
              simp [grD, hm, moD] at p1 L
              rcases h7 with rfl | rfl <;> simp [Gives, D__law_standing, p1, p2, L, osD, en, hla, grD, hm, moD, htl, stD]
            | some m =>
              simp [grD, hm, moD] at p1 L
              rcases h7 with rfl | rfl <;> simp [Gives, D__law_standing, p1, p2, L, osD, en, hla, grD, hm, moD, htl, stD]
          · have ho : ∃ y, (rd row).o = some y := by
              cases ho : (rd row).o with
              | none => exact absurd (hlast.mp ho) hf
              | some y => exact ⟨y, rfl⟩
            obtain ⟨y, ho⟩ := ho
            have hxf : (ltS x = Str.ofString "free") = False := by rw [lt_free]; exact eq_false hf
            have hrl : readL row = (rd row).ms ++ [(y.1, (row.length : Int), y.2)] := by
              unfold readL
              rw [ho, ri.t2]
              rfl
            rw [ho]
            obtain ⟨y1, y2⟩ := y
            generalize lts row = R at *
            generalize hN : (row.length : Int) = N at *
            have hMl : atI ((readL row).map mtD) (-1) = some (.tup [.int y1, .int N, .bl y2]) := by
              rw [hrl]
              simp [mtD]
            have hml : ((readL row).map mtD).length = (readL row).length := by simp
            generalize (readL row).length = Q at *
            generalize (readL row).map mtD = M at *
            simp at p1 p2 L
            cases hm : f.m with
            | none =>
              simp [grD, hm, moD] at p1 L
              cases y2 <;> rcases h7 with rfl | rfl <;> simp [Gives, D__law_standing, p1, p2, L, osD, en, hla, hxf, hMl, grD, hm, moD, htl, stD, mn]
            | some m =>
              simp [grD, hm, moD] at p1 L
              cases y2 <;> rcases h7 with rfl | rfl <;> simp [Gives, D__law_standing, p1, p2, L, osD, en, hla, hxf, hMl, hml, grD, hm, moD, htl, stD, mn]
end DL
set_option linter.all false
set_option maxRecDepth 100000
set_option maxHeartbeats 1000000
namespace DL
open PySem PySem.Spec PyProof.Rows L2 DD
/-- a span joins: where the last one begins, what lies behind -/
theorem jn_last {r : Ru} {w : Bool} {J : List (Int × Int)} {a : Int} : ∃ (A : List (Int × Int)) (v : Int), ∀ e, jn r w J (a, e) = A ++ [(v, e)] := by
  rcases List.eq_nil_or_concat J with rfl | ⟨J', y, rfl⟩
  · exact ⟨[], a, fun e => rfl⟩
  · rw [List.concat_eq_append]
    by_cases h : isJ r w y.2 a
    · exact ⟨J', y.1, fun e => by rw [jn_snoc, if_pos h]⟩
    · exact ⟨J' ++ [y], a, fun e => by rw [jn_snoc, if_neg h]⟩
theorem jnd_snoc {r : Ru} {w : Bool} {ms : List Mt} {m : Mt} : jnd r w (ms ++ [m]) = if wordOf r.p m.2.2 = some w then jn r w (jnd r w ms) (dn m.1 r.s, up m.2.1 r.s) else jnd r w ms := by
  unfold jnd
  rw [List.filterMap_append, List.foldl_append]
  by_cases h : wordOf r.p m.2.2 = some w
  · rw [if_pos h]
    have : [m].filterMap (spanOf r w) = [(dn m.1 r.s, up m.2.1 r.s)] := by simp [spanOf, h]
    rw [this]
    rfl
  · rw [if_neg h]
    have : [m].filterMap (spanOf r w) = [] := by simp [spanOf, h]
    rw [this]
    rfl
def pre (l : Lk) (w : Bool) (B : List (Int × Int)) (y : Option (Int × Int)) : Option Ty := if B = (spn w l.2).take B.length then some (B.length, y) else none
theorem partT_pre {l : Lk} {w : Bool} {ms : List Mt} : partT l w ms = pre l w ((jnd l.1 w ms).dropLast.filterMap (cutOf l.1)) (jnd l.1 w ms).getLast? := rfl
theorem part_nil {l : Lk} {w : Bool} {ms : List Mt} (h : jnd l.1 w ms = []) : partT l w ms = some (0, none) := by
  rw [partT_pre, h]
  rfl
theorem part_snoc {l : Lk} {w : Bool} {ms : List Mt} {J : List (Int × Int)} {y : Int × Int} (h : jnd l.1 w ms = J ++ [y]) : partT l w ms = pre l w (J.filterMap (cutOf l.1)) (some y) := by
  rw [partT_pre, h]
  simp
theorem pre_y {l : Lk} {w : Bool} {B : List (Int × Int)} {y z : Option (Int × Int)} {t : Ty} (h : pre l w B y = some t) : t = (B.length, y) ∧ pre l w B z = some (B.length, z) := by
  unfold pre at h ⊢
  by_cases e : B = (spn w l.2).take B.length
  · rw [if_pos e] at h ⊢
    cases h
    exact ⟨rfl, rfl⟩
  · rw [if_neg e] at h
    cases h
/-- a meeting begins -/
theorem part_start {l : Lk} {w : Bool} {ms : List Mt} {k e : Int} {p : Bool} {t : Ty} (he : e = k + 1) (hp : wordOf l.1.p p = some w) (h : partT l w ms = some t) : partT l w (ms ++ [(k, e, p)]) = startT l w t k := by
  subst he
  have hj : jnd l.1 w (ms ++ [(k, k + 1, p)]) = jn l.1 w (jnd l.1 w ms) (dn k l.1.s, up (k + 1) l.1.s) := by
    rw [jnd_snoc]
    exact if_pos hp
  rcases List.eq_nil_or_concat (jnd l.1 w ms) with hJ | ⟨J, y, hJ⟩
  · rw [part_nil hJ] at h
    cases h
    rw [hJ, jn_nil] at hj
    rw [part_snoc (J := []) hj]
    simp [pre, startT]
  · rw [List.concat_eq_append] at hJ
    rw [part_snoc hJ] at h
    obtain ⟨rfl, hz⟩ := pre_y h (z := some (y.1, up (k + 1) l.1.s))
    rw [hJ, jn_snoc] at hj
    by_cases hi : isJ l.1 w y.2 (dn k l.1.s)
    · rw [if_pos hi] at hj
      rw [part_snoc hj]
      simp [startT, hi, hz]
    · rw [if_neg hi] at hj
      rw [part_snoc hj]
      have hB : J.filterMap (cutOf l.1) = (spn w l.2).take (J.filterMap (cutOf l.1)).length := by
        unfold pre at h
        by_cases e : J.filterMap (cutOf l.1) = (spn w l.2).take (J.filterMap (cutOf l.1)).length
        · exact e
        · rw [if_neg e] at h
          cases h
      rw [List.filterMap_append]
      generalize J.filterMap (cutOf l.1) = B at *
      cases hc : cutOf l.1 y with
      | none =>
        have h1 : [y].filterMap (cutOf l.1) = [] := by simp [hc]
        rw [h1, List.append_nil]
        simp only [startT, if_neg hi, laidT, hc]
        unfold pre
        rw [if_pos hB]
        rfl
      | some z =>
        have h1 : [y].filterMap (cutOf l.1) = [z] := by simp [hc]
        rw [h1]
        simp only [startT, if_neg hi, laidT, hc]
        unfold pre
        have hl : (B ++ [z]).length = B.length + 1 := by simp
        rw [hl, List.take_add_one, ← hB]
        by_cases hs : (spn w l.2)[B.length]? = some z
        · rw [hs, if_pos (by rfl), if_pos rfl]
          rfl
        · rw [if_neg hs, if_neg]
          · rfl
          · intro e
            have e2 := List.append_cancel_left e
            cases ho : (spn w l.2)[B.length]? with
            | none => rw [ho] at e2; simp at e2
            | some q =>
              rw [ho] at e2 hs
              simp at e2
              exact hs (by rw [e2])
/-- .. goes on -/
theorem part_gone {l : Lk} {w : Bool} {ms : List Mt} {b k : Int} {p : Bool} {t : Ty} (hp : wordOf l.1.p p = some w) (h : partT l w (ms ++ [(b, k, p)]) = some t) : partT l w (ms ++ [(b, k + 1, p)]) = goneT l t k := by
  have hj : ∀ e, jnd l.1 w (ms ++ [(b, e, p)]) = jn l.1 w (jnd l.1 w ms) (dn b l.1.s, up e l.1.s) := fun e => by
    rw [jnd_snoc]
    exact if_pos hp
  obtain ⟨A, v, hA⟩ := jn_last (r := l.1) (w := w) (J := jnd l.1 w ms) (a := dn b l.1.s)
  have h1 := hj k
  have h2 := hj (k + 1)
  rw [hA] at h1 h2
  rw [part_snoc h1] at h
  rw [part_snoc h2]
  obtain ⟨rfl, hz⟩ := pre_y h (z := some (v, up (k + 1) l.1.s))
  rw [hz]
  simp [goneT]
theorem part_same {l : Lk} {w : Bool} {ms : List Mt} {m : Mt} (hp : ¬ wordOf l.1.p m.2.2 = some w) : partT l w (ms ++ [m]) = partT l w ms := by
  have : jnd l.1 w (ms ++ [m]) = jnd l.1 w ms := by rw [jnd_snoc, if_neg hp]
  rw [partT_pre, partT_pre, this]
theorem both_map {o : Option Ty} {u : Ty} {r : Option (List (Ty × Ty))} : both o (some u) r = match o.map (fun v => (v, u)) with
    | none => none
    | some v => r.map (v :: ·) := by cases o <;> rfl
theorem both_map2 {o : Option Ty} {u : Ty} {r : Option (List (Ty × Ty))} : both (some u) o r = match o.map (fun v => (u, v)) with
    | none => none
    | some v => r.map (v :: ·) := by cases o <;> rfl
theorem both_some {a b : Option Ty} {r : Option (List (Ty × Ty))} {ts : List (Ty × Ty)} (h : both a b r = some ts) : ∃ x y us, a = some x ∧ b = some y ∧ r = some us ∧ ts = (x, y) :: us := by
  cases a with
  | none => rw [both_none (.inl rfl)] at h; cases h
  | some x =>
    cases b with
    | none => rw [both_none (.inr rfl)] at h; cases h
    | some y =>
      cases r with
      | none => cases h
      | some us => cases h; exact ⟨x, y, us, rfl, rfl, rfl, rfl⟩
theorem all_start {k : Int} {p : Bool} {ms : List Mt} : ∀ {Ls : List Lk} {ts : List (Ty × Ty)}, allP ms Ls = some ts → allP (ms ++ [(k, k + 1, p)]) Ls = makeAll k (.go p) p Ls ts
  | [], ts, h => by cases h; rfl
  | l :: Ls, ts, h => by
    unfold allP at h
    obtain ⟨x, y, us, h1, h2, h3, rfl⟩ := both_some h
    have ih := all_start (k := k) (p := p) h3
    unfold allP
    simp only [makeAll, pairT]
    rw [ih]
    cases hw : wordOf l.1.p p with
    | none =>
      rw [part_same (m := (k, k + 1, p)) (by rw [hw]; simp), part_same (m := (k, k + 1, p)) (by rw [hw]; simp), h1, h2]
      rfl
    | some w =>
      cases w with
      | false =>
        rw [part_same (w := true) (m := (k, k + 1, p)) (by rw [hw]; simp), h2, part_start rfl hw h1, both_map]
        rfl
      | true =>
        rw [part_same (w := false) (m := (k, k + 1, p)) (by rw [hw]; simp), h1, part_start rfl hw h2, both_map2]
        rfl
theorem all_gone {b k : Int} {p : Bool} {ms : List Mt} : ∀ {Ls : List Lk} {ts : List (Ty × Ty)}, allP (ms ++ [(b, k, p)]) Ls = some ts → allP (ms ++ [(b, k + 1, p)]) Ls = makeAll k .on p Ls ts
  | [], ts, h => by cases h; rfl
  | l :: Ls, ts, h => by
    unfold allP at h
    obtain ⟨x, y, us, h1, h2, h3, rfl⟩ := both_some h
    have ih := all_gone (b := b) (k := k) (p := p) h3
    unfold allP
    simp only [makeAll, pairT]
    rw [ih]
    cases hw : wordOf l.1.p p with
    | none =>
      have q : ∀ w e, partT l w (ms ++ [(b, e, p)]) = partT l w ms := fun w e => part_same (m := (b, e, p)) (by rw [hw]; simp)
      rw [q] at h1 h2
      rw [q, q, h1, h2]
      rfl
    | some w =>
      cases w with
      | false =>
        have q : ∀ e, partT l true (ms ++ [(b, e, p)]) = partT l true ms := fun e => part_same (m := (b, e, p)) (by rw [hw]; simp)
        rw [q] at h2
        rw [q, h2, part_gone hw h1, both_map]
        rfl
      | true =>
        have q : ∀ e, partT l false (ms ++ [(b, e, p)]) = partT l false ms := fun e => part_same (m := (b, e, p)) (by rw [hw]; simp)
        rw [q] at h1
        rw [q, h1, part_gone hw h2, both_map2]
        rfl
end DL
set_option linter.all false
set_option maxRecDepth 100000
set_option maxHeartbeats 1000000
namespace DL
open PySem PySem.Spec PyProof.Rows L2 DD
def bad3 (f : Fr) : Lt → Bool
  | .go true => !f.p
  | _ => false
def bad2 (f : Fr) (run : Int) : Lt → Bool
  | .on => decide (run = 0)
  | _ => decide (0 < run) && decide (run < f.s)
def facts (f : Fr) (k : Int) (x : Lt) : Bool := f.ks.all fun q => !(decide (q.1 = k) && (q.2 == !(tkn x)))
theorem good_eq {f : Fr} {s : Rw} {x : Lt} : good f s x = (facts f s.t x && !(bad2 f s.run x) && !(bad3 f x)) := by
  cases x with
  | free => rfl
  | on => rfl
  | go p => cases p <;> rfl
theorem isLet_eq {f : Fr} {k : Int} {x : Lt} : isLet f k x = (!(bad3 f x) && facts f k x) := by
  have : (fun q : Kn => !(decide (q.1 = k)) || q.2 == tkn x) = fun q : Kn => !(decide (q.1 = k) && (q.2 == !(tkn x))) := by
    funext q
    obtain ⟨a, b⟩ := q
    cases decide (a = k) <;> cases b <;> cases tkn x <;> rfl
  unfold isLet facts
  rw [this]
  cases x with
  | free => rfl
  | on => rfl
  | go p => cases p <;> rfl
theorem wd_ne {p : Bool} : ¬ wd p = "" := by cases p <;> simp
theorem wd_pr {p : Bool} : decide (wd p = "private") = p := by cases p <;> simp
theorem stand_step {f : Fr} (hs : 1 ≤ f.s) {Ls : List Lk} {row : List Lt} {s : St} (h : standT f Ls row = some s) {x : Lt} : standT f Ls (row ++ [x]) = afterT f Ls row.length s x := by
  unfold standT at h
  by_cases hr : isRow f row = true
  case neg => rw [if_neg hr] at h; cases h
  rw [if_pos hr] at h
  unfold isRow at hr
  cases hw : rws f row ⟨0, 0, 0⟩ with
  | none => rw [hw] at hr; cases hr
  | some q =>
    rw [hw] at hr
    dsimp only at hr
    have ri := RI.of hw
    cases ha : allP (readL row) Ls with
    | none => rw [ha] at h; cases h
    | some ts =>
      rw [ha] at h
      have h := (Option.some.inj h).symm
      have hmany : q.many = ((readL row).length : Int) := by
        rw [ri.many]
        unfold readL
        rw [List.length_append]
        omega
      have hq : (q.t : Int) = row.length := by rw [ri.t]
      have hrow : isRow f (row ++ [x]) = if good f q x = true then topOk f (rwF f q x).many else false := by
        unfold isRow
        rw [rws_snoc, hw]
        dsimp only
        by_cases g : good f q x = true
        · rw [if_pos g, if_pos g]
        · rw [if_neg g, if_neg g]
      have hrd : rd (row ++ [x]) = rdF (rd row) x := rd_snoc
      have hlen : ((row ++ [x]).length : Int) = row.length + 1 := by simp
      unfold afterT
      rw [isLet_eq]
      rw [good_eq, hq] at hrow
      by_cases hb : facts f row.length x = true ∧ bad3 f x = false
      case neg =>
        have e1 : (facts f row.length x && !(bad2 f q.run x) && !(bad3 f x)) = false := by
          cases h1 : facts f row.length x
          · rfl
          · cases h2 : bad3 f x
            · exact absurd ⟨h1, h2⟩ hb
            · simp
        have e2 : (!(bad3 f x) && facts f row.length x) = false := by
          cases h1 : facts f row.length x
          · simp
          · cases h2 : bad3 f x
            · exact absurd ⟨h1, h2⟩ hb
            · rfl
        rw [e1] at hrow
        rw [e2, if_neg (by simp)]
        unfold standT
        rw [hrow]
        rfl
      obtain ⟨hb1, hb2⟩ := hb
      rw [hb1, hb2] at hrow ⊢
      have e3 : (!false && true) = true := rfl
      rw [if_pos e3]
      have e4 : (true && !(bad2 f q.run x) && !false) = !(bad2 f q.run x) := by simp
      rw [e4] at hrow
      have hrun := ri.run
      have ht2 := ri.t2
      have hopn := ri.opn
      unfold nextS standT
      rw [hrow]
      subst h
      dsimp only
      have hrl : readL row = (rd row).ms ++ clo row.length (rd row).o := by unfold readL; rw [ht2]
      have hrl2 : readL (row ++ [x]) = (rdF (rd row) x).ms ++ clo (row.length + 1) (rdF (rd row) x).o := by
        unfold readL
        rw [hrd, rdF_t, ht2]
      rw [hrd]
      generalize hR : rd row = R at *
      obtain ⟨t, ms, o⟩ := R
      dsimp only at ht2 hrun hopn hrl
      subst ht2
      cases x with
      | on =>
        cases o with
        | none =>
          dsimp only at hrun
          have e5 : bad2 f q.run .on = true := by rw [hrun]; rfl
          rw [e5]
          simp [headT]
        | some y =>
          obtain ⟨a1, a2, a3⟩ := hopn y rfl
          have hrun' : q.run = (row.length : Int) - y.1 := hrun
          have e5 : bad2 f q.run .on = false := by
            rw [hrun']
            exact decide_eq_false (by omega)
          have e6 : topOk f (rwF f q .on).many = true := by
            have : (rwF f q .on).many = q.many := by simp [rwF, isGo]
            rw [this]
            exact hr
          rw [e5, e6]
          simp only [Bool.not_false, ↓reduceIte]
          have hrl3 : readL (row ++ [.on]) = ms ++ [(y.1, (row.length : Int) + 1, y.2)] := hrl2
          have hrl4 : readL row = ms ++ [(y.1, (row.length : Int), y.2)] := hrl
          rw [hrl4] at ha
          have hg := all_gone ha
          rw [hrl3, hg]
          simp only [rdF, headT, if_neg wd_ne, makingT, wd_pr]
          cases hM : makeAll row.length .on y.2 Ls ts with
          | none => rfl
          | some us =>
            dsimp only
            have e7 : mn f.s (((row ++ [Lt.on]).length : Int) - y.1) = mn (mn f.s ((row.length : Int) - y.1) + 1) f.s := by
              rw [hlen]
              unfold mn
              split <;> split <;> split <;> omega
            rw [e7, hrl4]
            simp
      | free =>
        have hM : readL (row ++ [.free]) = readL row := by
          rw [hrl2, hrl]
          simp [rdF, clo]
        rw [hM, ha]
        have e6 : topOk f (rwF f q .free).many = true := by
          have : (rwF f q .free).many = q.many := by simp [rwF, isGo]
          rw [this]
          exact hr
        rw [e6]
        cases o with
        | none =>
          dsimp only at hrun
          have e5 : bad2 f q.run .free = false := by rw [hrun]; rfl
          rw [e5]
          simp only [Bool.not_false, ↓reduceIte]
          simp [headT, makingT, rdF]
        | some y =>
          obtain ⟨a1, a2, a3⟩ := hopn y rfl
          have hrun' : q.run = (row.length : Int) - y.1 := hrun
          by_cases hd : (row.length : Int) - y.1 < f.s
          · have e5 : bad2 f q.run .free = true := by
              rw [hrun']
              show (decide _ && decide _) = true
              rw [decide_eq_true (by omega), decide_eq_true hd]
              rfl
            have e8 : ¬ mn f.s ((row.length : Int) - y.1) = f.s := by unfold mn; rw [if_pos hd]; omega
            rw [e5]
            simp [headT, wd_ne, e8]
          · have e5 : bad2 f q.run .free = false := by
              rw [hrun']
              show (decide _ && decide _) = false
              rw [decide_eq_false hd, Bool.and_false]
            have e8 : mn f.s ((row.length : Int) - y.1) = f.s := by unfold mn; rw [if_neg hd]
            rw [e5]
            simp only [Bool.not_false, ↓reduceIte]
            simp [headT, makingT, rdF, e8]
      | go p =>
        have hM : readL (row ++ [.go p]) = readL row ++ [((row.length : Int), (row.length : Int) + 1, p)] := by
          rw [hrl2, hrl]
          rfl
        have hg := all_start (k := row.length) (p := p) ha
        rw [hM, hg]
        have em : (rwF f q (.go p)).many = ((readL row).length : Int) + 1 := by
          have : (rwF f q (.go p)).many = q.many + 1 := by simp [rwF, isGo]
          rw [this, hmany]
        rw [em]
        have e1 : mn f.s (((row ++ [Lt.go p]).length : Int) - (row.length : Int)) = 1 := by
          rw [hlen]
          unfold mn
          split <;> omega
        have hml : (((readL row ++ [((row.length : Int), (row.length : Int) + 1, p)]).length : Nat) : Int) = ((readL row).length : Int) + 1 := by simp
        have main : ∀ (g : Str) (r : Int), (g = "" ∨ r = f.s) → (if topOk f (((readL row).length : Int) + 1) = true then (match makeAll row.length (.go p) p Ls ts with
            | none => none
            | some ts => some (⟨wd p, 1, (match f.m with
              | none => 0
              | some _ => ((readL row).length : Int) + 1), ts⟩ : St)) else none) = match headT f (g, r, (match f.m with
              | none => 0
              | some _ => ((readL row).length : Int))) (.go p) with
            | none => none
            | some h => match makeAll row.length (.go p) p Ls ts with
              | none => none
              | some ts => some ⟨h.1, h.2.1, h.2.2, ts⟩ := fun g r hgr => by
          cases hm : f.m with
          | none =>
            simp only [headT, hm, topOk, if_pos hgr, if_pos]
          | some m =>
            by_cases hle : m ≤ ((readL row).length : Int)
            · have : ¬ ((readL row).length : Int) + 1 ≤ m := by omega
              simp only [headT, hm, topOk, if_pos hgr, if_pos hle, this, decide_false]
              rfl
            · have : ((readL row).length : Int) + 1 ≤ m := by omega
              simp only [headT, hm, topOk, if_pos hgr, if_neg hle, this, decide_true, if_pos]
        cases o with
        | none =>
          dsimp only at hrun
          have e5 : bad2 f q.run (.go p) = false := by rw [hrun]; rfl
          rw [e5]
          simp only [Bool.not_false, ↓reduceIte]
          simp only [rdF, e1, hml]
          exact main "" 0 (.inl rfl)
        | some y =>
          obtain ⟨a1, a2, a3⟩ := hopn y rfl
          have hrun' : q.run = (row.length : Int) - y.1 := hrun
          by_cases hd : (row.length : Int) - y.1 < f.s
          · have e5 : bad2 f q.run (.go p) = true := by
              rw [hrun']
              show (decide _ && decide _) = true
              rw [decide_eq_true (by omega), decide_eq_true hd]
              rfl
            have e8 : ¬ mn f.s ((row.length : Int) - y.1) = f.s := by unfold mn; rw [if_pos hd]; omega
            rw [e5]
            simp [headT, wd_ne, e8]
          · have e5 : bad2 f q.run (.go p) = false := by
              rw [hrun']
              show (decide _ && decide _) = false
              rw [decide_eq_false hd, Bool.and_false]
            have e8 : mn f.s ((row.length : Int) - y.1) = f.s := by unfold mn; rw [if_neg hd]
            rw [e5]
            simp only [Bool.not_false, ↓reduceIte]
            simp only [rdF, e1, hml]
            exact main (wd y.2) (mn f.s ((row.length : Int) - y.1)) (.inr e8)
theorem stand_w {f : Fr} {Ls : List Lk} {row : List Lt} {s : St} (h : standT f Ls row = some s) : StW s ∧ s.k.length = Ls.length := by
  have hl : ∀ {ms : List Mt} {Ls : List Lk} {ts : List (Ty × Ty)}, allP ms Ls = some ts → ts.length = Ls.length := by
    intro ms Ls
    induction Ls with
    | nil => intro ts e; cases e; rfl
    | cons l Ls ih =>
      intro ts e
      unfold allP at e
      obtain ⟨x, y, us, h1, h2, h3, rfl⟩ := both_some e
      simp [ih h3]
  unfold standT at h
  by_cases hr : isRow f row = true
  case neg => rw [if_neg hr] at h; cases h
  rw [if_pos hr] at h
  cases ha : allP (readL row) Ls with
  | none => rw [ha] at h; cases h
  | some ts =>
    rw [ha] at h
    cases h
    refine ⟨?_, hl ha⟩
    unfold StW
    dsimp only
    cases (rd row).o with
    | none => exact .inl rfl
    | some y => exact .inr ⟨y.2, rfl⟩
theorem stand_nil {f : Fr} {Ls : List Lk} (hm : ∀ i, f.m = some i → 0 ≤ i) : standT f Ls [] = some ⟨"", 0, 0, Ls.map fun _ => ((0, none), (0, none))⟩ := by
  have h1 : isRow f [] = true := by
    show topOk f 0 = true
    unfold topOk
    cases e : f.m with
    | none => rfl
    | some i => exact decide_eq_true (hm i e)
  have h2 : ∀ Ls : List Lk, allP (readL []) Ls = some (Ls.map fun _ => ((0, none), (0, none))) := by
    intro Ls
    induction Ls with
    | nil => rfl
    | cons l Ls ih =>
      unfold allP
      rw [ih, part_nil (l := l) (w := false) (ms := readL []) rfl, part_nil (l := l) (w := true) (ms := readL []) rfl]
      rfl
  unfold standT
  rw [if_pos h1, h2]
  cases f.m <;> rfl
end DL
set_option linter.all false
set_option maxRecDepth 100000
set_option maxHeartbeats 1000000
namespace DL
open PySem PySem.Spec PyProof.Rows L2 DD
def In3 (i : Int) : Prop := 0 ≤ i ∧ i ≤ 3000
def TyIn (t : Ty) : Prop := In3 t.1 ∧ ∀ x, t.2 = some x → In3 x.1 ∧ In3 x.2
structure Sh (p : PyData) (n : Nat) : Prop where
  a : p.showable = true
  b : p.hasDict = false
  c : p.shown.length ≤ n
  d : p.depth ≤ n
  e : p.canLay0 = true
theorem Sh.int {i : Int} (h : In3 i) : Sh (.int i) 5 := ⟨decide_eq_true (log3 h.1 h.2), rfl, nlen3 h.1 h.2, by simp [PyData.depth], rfl⟩
theorem Sh.none : Sh .none 5 := ⟨rfl, rfl, by decide +kernel, by simp [PyData.depth], rfl⟩
theorem Sh.mono {p : PyData} {n m : Nat} (h : Sh p n) (hm : n ≤ m) : Sh p m := ⟨h.a, h.b, by have := h.c; omega, by have := h.d; omega, h.e⟩
theorem Sh.two {p q : PyData} {n m : Nat} (h : Sh p n) (k : Sh q m) : Sh (.tuple [p, q]) (n + m + 20) := by
  refine ⟨?_, ?_, ?_, ?_, ?_⟩
  · show (p.showable && (q.showable && true)) = true
    rw [h.a, k.a]
    rfl
  · show (p.hasDict || (q.hasDict || false)) = false
    rw [h.b, k.b]
    rfl
  · show (tupleText [p.shown, q.shown]).length ≤ _
    have z := fmt_text [p.shown, q.shown]
    have h1 := h.c
    have h2 := k.c
    rw [piled_cons, piled_cons, piled_nil] at z
    omega
  · have h1 := h.d
    have h2 := k.d
    simp only [PyData.depth, PyData.depthAll]
    omega
  · show (p.canLay0 && (q.canLay0 && true)) = true
    rw [h.e, k.e]
    rfl
theorem Sh.cu {o : Option (Int × Int)} (h : ∀ x, o = some x → In3 x.1 ∧ In3 x.2) : Sh (cuP o) 30 := by
  cases o with
  | none => exact Sh.none.mono (by decide)
  | some x => exact (Sh.two (Sh.int (h x rfl).1) (Sh.int (h x rfl).2)).mono (by decide)
def tyP (t : Ty) : PyData := .tuple [.int t.1, cuP t.2]
def tpP (p : Ty × Ty) : PyData := .tuple [tyP p.1, tyP p.2]
theorem Sh.ty {t : Ty} (h : TyIn t) : Sh (tyP t) 55 := Sh.two (Sh.int h.1) (Sh.cu h.2)
theorem Sh.tp {p : Ty × Ty} (h : TyIn p.1 ∧ TyIn p.2) : Sh (tpP p) 130 := Sh.two (Sh.ty h.1) (Sh.ty h.2)
theorem ty_py {t : Ty} : (tyD t).py = some (tyP t) := by
  obtain ⟨n, o⟩ := t
  cases o <;> rfl
theorem tp_py {p : Ty × Ty} : (tpD p).py = some (tpP p) := by
  have h1 := ty_py (t := p.1)
  have h2 := ty_py (t := p.2)
  simp only [tpD, D.py, D.pyA, h1, h2, Option.map, tpP]
theorem tp_pyA : ∀ L : List (Ty × Ty), D.pyA (L.map tpD) = some (L.map tpP)
  | [] => rfl
  | p :: L => by
    rw [List.map_cons, List.map_cons]
    simp only [D.pyA, tp_py, tp_pyA L]
theorem tps_show : ∀ {L : List (Ty × Ty)}, (∀ p ∈ L, TyIn p.1 ∧ TyIn p.2) → PyData.showableAll (L.map tpP) = true ∧ PyData.hasDictAll (L.map tpP) = false ∧ piled (PyData.shownAll (L.map tpP)) ≤ L.length * 200 ∧ PyData.depthAll (L.map tpP) ≤ 10
  | [], _ => ⟨rfl, rfl, Nat.zero_le _, by simp [PyData.depthAll]⟩
  | p :: L, h => by
    obtain ⟨h1, h2, h3, h4⟩ := tps_show (L := L) fun x hx => h x (List.mem_cons_of_mem _ hx)
    have s := Sh.tp (h p (List.mem_cons_self ..))
    refine ⟨?_, ?_, ?_, ?_⟩
    · show ((tpP p).showable && PyData.showableAll (L.map tpP)) = true
      rw [s.a, h1]
      rfl
    · show ((tpP p).hasDict || PyData.hasDictAll (L.map tpP)) = false
      rw [s.b, h2]
      rfl
    · show piled ((tpP p).shown :: PyData.shownAll (L.map tpP)) ≤ _
      have := s.c
      rw [piled_cons]
      simp only [List.length_cons]
      omega
    · rw [List.map_cons]
      simp only [PyData.depthAll]
      have dep : (tpP p).depth ≤ 10 := by
        obtain ⟨⟨n, o⟩, ⟨m, q⟩⟩ := p
        cases o <;> cases q <;> simp [tpP, tyP, cuP, seP, PyData.depth, PyData.depthAll]
      omega
/-- a standing of small numbers -/
structure StIn (s : St) : Prop where
  w : StW s
  r : In3 s.r
  m : In3 s.m
  k : ∀ p ∈ s.k, TyIn p.1 ∧ TyIn p.2
  z : s.k.length ≤ 1000
theorem repr_st {s : St} (h : StIn s) : ∃ z : Str, fRepr3 [stD s] = some (X.val (.str z)) := by
  obtain ⟨h1, h2, h3, h4⟩ := tps_show h.k
  have hz := h.z
  have e : (stD s).py = some (.tuple [.str s.g, .int s.r, .int s.m, .tuple (s.k.map tpP)]) := by
    simp only [stD, D.py, D.pyA, tp_pyA, Option.map]
  have g1 : (PyData.str s.g).showable = true ∧ (PyData.str s.g).hasDict = false ∧ (PyData.shown (.str s.g)).length ≤ 20 ∧ (PyData.str s.g).depth ≤ 1 := by
    rcases h.w with hg | ⟨p, hg⟩
    · rw [hg]
      exact ⟨by decide +kernel, rfl, by decide +kernel, by simp [PyData.depth]⟩
    · rw [hg]
      cases p <;> exact ⟨by decide +kernel, rfl, by decide +kernel, by simp [PyData.depth]⟩
  have sr := Sh.int h.r
  have sm := Sh.int h.m
  have z1 := fmt_text (PyData.shownAll (s.k.map tpP))
  refine ⟨(PyData.tuple [.str s.g, .int s.r, .int s.m, .tuple (s.k.map tpP)]).shown, ?_⟩
  show (match (stD s).py with
    | some p => if p.showable = true ∧ p.hasDict = false ∧ p.depth ≤ 60 ∧ p.shown.length ≤ sizeLine then some (X.val (D.str p.shown)) else none
    | none => none) = _
  rw [e]
  dsimp only
  rw [if_pos]
  refine ⟨?_, ?_, ?_, ?_⟩
  · show ((PyData.str s.g).showable && ((PyData.int s.r).showable && ((PyData.int s.m).showable && (PyData.showableAll (s.k.map tpP) && true)))) = true
    rw [g1.1, sr.a, sm.a, h1]
    rfl
  · show ((PyData.str s.g).hasDict || ((PyData.int s.r).hasDict || ((PyData.int s.m).hasDict || (PyData.hasDictAll (s.k.map tpP) || false)))) = false
    rw [g1.2.1, sr.b, sm.b, h2]
    rfl
  · have := g1.2.2.2
    simp only [PyData.depth, PyData.depthAll] at this ⊢
    omega
  · show (tupleText [PyData.shown (.str s.g), (PyData.int s.r).shown, (PyData.int s.m).shown, tupleText (PyData.shownAll (s.k.map tpP))]).length ≤ sizeLine
    have z := fmt_text [PyData.shown (.str s.g), (PyData.int s.r).shown, (PyData.int s.m).shown, tupleText (PyData.shownAll (s.k.map tpP))]
    have a1 := g1.2.2.1
    have a2 := sr.c
    have a3 := sm.c
    rw [piled_cons, piled_cons, piled_cons, piled_cons, piled_nil] at z
    rw [sizeLine_eq]
    omega
theorem repr_non : fRepr3 [.non] = some (X.val (.str "None")) := rfl
theorem repr_os {o : Option St} (h : ∀ s, o = some s → StIn s) : ∃ z : Str, fRepr3 [osD o] = some (X.val (.str z)) := by
  cases o with
  | none => exact ⟨_, repr_non⟩
  | some s => exact repr_st (h s rfl)
/-- the law's standings are small -/
theorem part_in {l : Lk} (ok : LkOk l) {w : Bool} {ms : List Mt} (hm : Meets 0 ms) (hn : endOf 0 ms ≤ 70) {t : Ty} (h : partT l w ms = some t) {c : Cl} : TyIn t := by
  have hS := flat_up ok.r hn (painted2_v (c := c) ok.r hm hn (w := w)).2
  have hl := jnd_len (r := l.1) (w := w) (ms := ms)
  have hml := meets_len hm
  rw [partT_pre] at h
  obtain ⟨rfl, _⟩ := pre_y h (z := none)
  have h1 := List.length_filterMap_le (cutOf l.1) (jnd l.1 w ms).dropLast
  have h2 : (jnd l.1 w ms).dropLast.length ≤ (jnd l.1 w ms).length := by simp
  refine ⟨⟨by dsimp only; omega, by dsimp only; omega⟩, fun x hx => ?_⟩
  have hx' := hS.one x (List.mem_of_getLast? hx)
  exact ⟨⟨by omega, by omega⟩, ⟨by omega, by omega⟩⟩
theorem all_in {c : Cl} {ms : List Mt} (hm : Meets 0 ms) (hn : endOf 0 ms ≤ 70) : ∀ {Ls : List Lk} {ts : List (Ty × Ty)}, (∀ l ∈ Ls, LkOk l) → allP ms Ls = some ts → ∀ p ∈ ts, TyIn p.1 ∧ TyIn p.2
  | [], ts, _, h => by cases h; intro p hp; simp at hp
  | l :: Ls, ts, hL, h => by
    unfold allP at h
    obtain ⟨x, y, us, h1, h2, h3, rfl⟩ := both_some h
    intro p hp
    rcases List.mem_cons.mp hp with rfl | hp
    · exact ⟨part_in (hL l (by simp)) hm hn h1 (c := c), part_in (hL l (by simp)) hm hn h2 (c := c)⟩
    · exact all_in (c := c) hm hn (fun l hl => hL l (by simp [hl])) h3 p hp
theorem stand_in {c : Cl} {f : Fr} (hs : 1 ≤ f.s ∧ f.s ≤ 3000) {Ls : List Lk} (hL : ∀ l ∈ Ls, LkOk l) (hz : Ls.length ≤ 1000) {row : List Lt} (hn : row.length ≤ 70) {s : St} (h : standT f Ls row = some s) : StIn s := by
  obtain ⟨sw, sl⟩ := stand_w h
  unfold standT at h
  by_cases hr : isRow f row = true
  case neg => rw [if_neg hr] at h; cases h
  rw [if_pos hr] at h
  unfold isRow at hr
  cases hw : rws f row ⟨0, 0, 0⟩ with
  | none => rw [hw] at hr; cases hr
  | some q =>
    have ri := RI.of hw
    obtain ⟨rm, re⟩ := ri.readL
    have rl := meets_len rm
    cases ha : allP (readL row) Ls with
    | none => rw [ha] at h; cases h
    | some ts =>
      rw [ha] at h
      cases h
      refine ⟨sw, ?_, ?_, all_in (c := c) rm (by omega) hL ha, by omega⟩
      · dsimp only
        cases ho : (rd row).o with
        | none => exact ⟨by simp, by simp⟩
        | some y =>
          obtain ⟨a1, a2, a3⟩ := ri.opn y ho
          dsimp only
          unfold In3 mn
          split <;> omega
      · dsimp only
        unfold In3
        cases f.m with
        | none => exact ⟨by simp, by simp⟩
        | some i => dsimp only; omega
end DL
set_option linter.all false
set_option maxRecDepth 100000
set_option maxHeartbeats 2000000
namespace DL
open PySem PySem.Spec PyProof.Rows L2 DD
theorem forL_bk {U : Tg} {B : En → SR} (W : Nat → En → Prop) (V : En → Prop) (hWV : ∀ i ρ, W i ρ → V ρ) : ∀ {ds : List D} {i : Nat}, (∀ j (hj : j < ds.length) ρ, W (i + j) ρ → (∃ ρ2, stepL U B ds[j] ρ = .nx ρ2 ∧ W (i + j + 1) ρ2) ∨ ∃ ρ2, stepL U B ds[j] ρ = .bk ρ2 ∧ V ρ2) → ∀ {ρ : En}, W i ρ → ∃ ρ', forL U B ds ρ = .nx ρ' ∧ V ρ'
  | [], i, _, ρ, h0 => ⟨ρ, rfl, hWV _ _ h0⟩
  | d :: ds, i, h, ρ, h0 => by
    unfold forL
    rcases h 0 (by simp) ρ (by simpa using h0) with ⟨ρ2, e, w⟩ | ⟨ρ2, e, w⟩
    · unfold stepL at e
      simp only [List.getElem_cons_zero] at e
      cases e1 : U d ρ with
      | none => rw [e1] at e; cases e
      | some ρ1 =>
        rw [e1] at e
        have e : B ρ1 = .nx ρ2 := e
        simp only [e]
        refine forL_bk W V hWV (i := i + 1) (fun j hj ρ hw => ?_) (by simpa using w)
        have := h (j + 1) (by simpa using hj) ρ (by rw [show i + (j + 1) = i + 1 + j by omega]; exact hw)
        rw [show i + (j + 1) + 1 = i + 1 + j + 1 by omega] at this
        simpa using this
    · unfold stepL at e
      simp only [List.getElem_cons_zero] at e
      cases e1 : U d ρ with
      | none => rw [e1] at e; cases e
      | some ρ1 =>
        rw [e1] at e
        have e : B ρ1 = .bk ρ2 := e
        simp only [e]
        exact ⟨ρ2, rfl, w⟩
/-- letters with their standings -/
abbrev Gd := {p : Lt × St // StIn p.2}
def gdD (p : Gd) : D := .tup [.str (ltS p.1.1), stD p.1.2]
def stP (s : St) : PyData := .tuple [.str s.g, .int s.r, .int s.m, .tuple (s.k.map tpP)]
def gdP (p : Gd) : PyData := .tuple [.str (ltS p.1.1), stP p.1.2]
theorem st_py {s : St} : (stD s).py = some (stP s) := by simp only [stD, stP, D.py, D.pyA, tp_pyA, Option.map]
theorem gd_py (p : Gd) : (gdD p).py = some (gdP p) := by
  simp only [gdD, gdP, D.py, D.pyA, st_py, Option.map]
theorem tps_lay : ∀ {L : List (Ty × Ty)}, PyData.canLayAll0 (L.map tpP) = true
  | [] => rfl
  | p :: L => by
    rw [List.map_cons]
    have : (tpP p).canLay0 = true := by
      obtain ⟨⟨n, o⟩, ⟨m, q⟩⟩ := p
      cases o <;> cases q <;> rfl
    simp only [PyData.canLayAll0, this, tps_lay (L := L), Bool.and_self]
theorem lt_lay {x : Lt} : (PyData.str (ltS x)).canLay0 = true := by
  cases x with
  | free => decide +kernel
  | on => decide +kernel
  | go p => cases p <;> decide +kernel
theorem gd_lay (p : Gd) : (gdP p).canLay0 = true := by
  obtain ⟨⟨x, s⟩, h⟩ := p
  have hg : (PyData.str s.g).canLay0 = true := by
    rcases h.w with hg | ⟨q, hg⟩
    · rw [show s.g = "" from hg]
      decide +kernel
    · rw [show s.g = wd q from hg]
      cases q <;> decide +kernel
  have hx := lt_lay (x := x)
  simp only [PyData.canLay0] at hg hx
  simp [gdP, stP, PyData.canLay0, PyData.canLayAll0, tps_lay, hg, hx]
theorem gd_dep (p : Gd) : (gdP p).depth ≤ 50 := by
  obtain ⟨⟨x, s⟩, h⟩ := p
  have := (tps_show h.k).2.2.2
  simp only [gdP, stP, PyData.depth, PyData.depthAll]
  dsimp only at this
  omega
theorem eqB_gd_nil (L : List Gd) : eqB (.lst (L.map gdD)) (.lst []) = some L.isEmpty := eqB_lst_nil gd_py gd_lay gd_dep L
theorem lts_snoc {row : List Lt} {x : Lt} : lts (row ++ [x]) = lts row ++ [.str (ltS x)] := by simp [lts]
theorem b1_step {c : Cl} {f : Fr} {lo hi : Int} (ok : GrOk lo hi f) {Ls : List Lk} (hL : ∀ l ∈ Ls, LkOk l) (hz : Ls.length ≤ 100) {row : List Lt} {s : St} (hs : standT f Ls row = some s) (hn : row.length < 60) {x : Lt} {G : List Gd} (hG : G.length < 100) {v0 v1 v2 v3 v10 s12 s13 s14 s15 : Slot} (h10 : v10 = .own (.lst (lts row)) ∨ v10 = .val (.lst (lts row))) (f12 : s12.free = true) (f13 : s13.free = true) (f14 : s14.free = true) (f15 : s15.free = true) : ∃ (G' : List Gd) (t13 t14 t15 : Slot), stepL (uName 12) (D_law_b1 c) (.str (ltS x)) [v0, v1, v2, v3, .val (grD f), .val (.lst (Ls.map lkD)), .val (stD s), .val (.int (row.length : Int)), .val (fvD c f), .val (.lst (Ls.map (lvD c))), v10, .own (.lst (G.map gdD)), s12, s13, s14, s15] = .nx [v0, v1, v2, v3, .val (grD f), .val (.lst (Ls.map lkD)), .val (stD s), .val (.int (row.length : Int)), .val (fvD c f), .val (.lst (Ls.map (lvD c))), v10, .own (.lst ((G ++ G').map gdD)), .val (.str (ltS x)), t13, t14, t15] ∧ t13.free = true ∧ t14.free = true ∧ t15.free = true ∧ G'.length ≤ 1 ∧ ∀ g ∈ G', standT f Ls (row ++ [g.1.1]) = some g.1.2 := by
  have hw := stand_w hs
  have st := stand_step ok.i.s hs (x := x)
  have fo : f.s ≤ 3000 := by have := ok.s; omega
  obtain ⟨_, p1⟩ := (standing_v (c := c) (f := f) hL (by omega) (row := row ++ [x]) (by simp; omega)).elim
  obtain ⟨_, p2⟩ := (after_v (c := c) (f := f) (by have := ok.i.z; omega) hL (by omega) (.inl rfl) (k := row.length) hw.1 (by omega) (x := x)).elim
  obtain ⟨_, p3⟩ := (after_v (c := c) (f := f) (by have := ok.i.z; omega) hL (by omega) (.inr rfl) (k := row.length) hw.1 (by omega) (x := x)).elim
  rw [← st] at p2 p3
  rw [lts_snoc] at p1
  have hin : ∀ s', standT f Ls (row ++ [x]) = some s' → StIn s' := fun s' e => stand_in (c := c) ⟨ok.i.s, fo⟩ hL (by omega) (by simp; omega) e
  obtain ⟨z, hzr⟩ := repr_os hin
  have zl : (Ls.map (lvD c)).length ≤ 16777216 := by simp; omega
  have zr : (lts row).length + 1 ≤ 16777216 := by simp [lts]; omega
  have zg : G.length + 1 ≤ 16777216 := by omega
  have zg0 : G.length ≤ 16777216 := by omega
  generalize lts row = R at *
  generalize Ls.map (lvD c) = V at *
  generalize Ls.map lkD = K at *
  generalize (row.length : Int) = n at *
  obtain ⟨S, hS⟩ : ∃ S, stD s = S := ⟨_, rfl⟩
  obtain ⟨F, hF⟩ : ∃ F, fvD c f = F := ⟨_, rfl⟩
  obtain ⟨Q, hQ⟩ : ∃ Q, grD f = Q := ⟨_, rfl⟩
  obtain ⟨L, hLt⟩ : ∃ L, ltS x = L := ⟨_, rfl⟩
  rw [hS, hF, hLt] at p2 p3
  rw [hQ, hLt] at p1
  rw [hS, hQ, hLt, hF]
  cases ho : standT f Ls (row ++ [x]) with
  | none =>
    rw [ho] at p1 p2 p3 hzr
    simp [osD] at p1 p2 p3 hzr
    refine ⟨[], .val .non, .val .non, .val .non, ?_, rfl, rfl, rfl, by simp, fun g hg => by simp at hg⟩
    rcases h10 with rfl | rfl <;>
      simp [D_law_b1, f12, f13, f14, f15, p1, p2, p3, hzr, zl, zr, zg0]
  | some s' =>
    rw [ho] at p1 p2 p3 hzr
    simp [osD] at p1 p2 p3 hzr
    have hi := hin s' ho
    obtain ⟨a, b, d, e, hS'⟩ : ∃ a b d e, stD s' = .tup [a, b, d, e] := ⟨_, _, _, _, rfl⟩
    rw [hS'] at p1 p2 p3 hzr
    refine ⟨[⟨(x, s'), hi⟩], .val (stD s'), .val (stD s'), .val (stD s'), ?_, rfl, rfl, rfl, by simp, fun g hg => ?_⟩
    · have hgd : gdD ⟨(x, s'), hi⟩ = .tup [.str L, .tup [a, b, d, e]] := by rw [gdD, hS', hLt]
      rw [hS', List.map_append, List.map_cons, List.map_nil, hgd]
      rcases h10 with rfl | rfl <;>
        simp [D_law_b1, f12, f13, f14, f15, p1, p2, p3, hzr, zl, zr, zg]
    · simp at hg
      subst hg
      exact ho
end DL
set_option linter.all false
set_option maxRecDepth 100000
set_option maxHeartbeats 2000000
namespace DL
open PySem PySem.Spec PyProof.Rows L2 DD
def fourL : List Lt := [.free, .go false, .go true, .on]
theorem letters_v {c : Cl} {f : Fr} {lo hi : Int} (ok : GrOk lo hi f) {Ls : List Lk} (hL : ∀ l ∈ Ls, LkOk l) (hz : Ls.length ≤ 100) {row : List Lt} {s : St} (hs : standT f Ls row = some s) (hn : row.length < 60) {v0 v1 v2 v3 v10 s12 s13 s14 s15 : Slot} (h10 : v10 = .own (.lst (lts row)) ∨ v10 = .val (.lst (lts row))) (f12 : s12.free = true) (f13 : s13.free = true) (f14 : s14.free = true) (f15 : s15.free = true) : ∃ (G : List Gd) (t12 t13 t14 t15 : Slot), forL (uName 12) (D_law_b1 c) [.str "free", .str "busy", .str "private", .str "on"] [v0, v1, v2, v3, .val (grD f), .val (.lst (Ls.map lkD)), .val (stD s), .val (.int (row.length : Int)), .val (fvD c f), .val (.lst (Ls.map (lvD c))), v10, .own (.lst []), s12, s13, s14, s15] = .nx [v0, v1, v2, v3, .val (grD f), .val (.lst (Ls.map lkD)), .val (stD s), .val (.int (row.length : Int)), .val (fvD c f), .val (.lst (Ls.map (lvD c))), v10, .own (.lst (G.map gdD)), t12, t13, t14, t15] ∧ t12.free = true ∧ t13.free = true ∧ t14.free = true ∧ t15.free = true ∧ G.length ≤ 4 ∧ ∀ g ∈ G, standT f Ls (row ++ [g.1.1]) = some g.1.2 := by
  have hds : [D.str "free", .str "busy", .str "private", .str "on"] = fourL.map fun x => D.str (ltS x) := rfl
  rw [hds]
  obtain ⟨ρ', e, G, t12, t13, t14, t15, rfl, g12, g13, g14, g15, hl, hG⟩ := forL_inv (U := uName 12) (B := D_law_b1 c) (ds := fourL.map fun x => D.str (ltS x)) (fun i ρ => ∃ (G : List Gd) (s12 s13 s14 s15 : Slot), ρ = [v0, v1, v2, v3, .val (grD f), .val (.lst (Ls.map lkD)), .val (stD s), .val (.int (row.length : Int)), .val (fvD c f), .val (.lst (Ls.map (lvD c))), v10, .own (.lst (G.map gdD)), s12, s13, s14, s15] ∧ s12.free = true ∧ s13.free = true ∧ s14.free = true ∧ s15.free = true ∧ G.length ≤ i ∧ ∀ g ∈ G, standT f Ls (row ++ [g.1.1]) = some g.1.2) (fun i hi ρ hw => by
    obtain ⟨G, s12, s13, s14, s15, rfl, f12, f13, f14, f15, hl, hG⟩ := hw
    have hi4 : i < 4 := by simpa [fourL] using hi
    rw [List.getElem_map]
    obtain ⟨G', t13, t14, t15, e, g13, g14, g15, hl', hG'⟩ := b1_step (c := c) ok hL hz hs hn (x := fourL[i]'(by simpa using hi)) (G := G) (by omega) (v0 := v0) (v1 := v1) (v2 := v2) (v3 := v3) h10 f12 f13 f14 f15
    refine ⟨_, .inl e, G ++ G', .val (.str (ltS (fourL[i]'(by simpa using hi)))), t13, t14, t15, rfl, rfl, g13, g14, g15, by rw [List.length_append]; omega, fun g hg => ?_⟩
    rcases List.mem_append.mp hg with h | h
    · exact hG g h
    · exact hG' g h) (ρ := [v0, v1, v2, v3, .val (grD f), .val (.lst (Ls.map lkD)), .val (stD s), .val (.int (row.length : Int)), .val (fvD c f), .val (.lst (Ls.map (lvD c))), v10, .own (.lst []), s12, s13, s14, s15]) ⟨[], s12, s13, s14, s15, rfl, f12, f13, f14, f15, by simp, fun g hg => by simp at hg⟩
  exact ⟨G, t12, t13, t14, t15, e, g12, g13, g14, g15, by simpa [fourL] using hl, hG⟩
theorem b2_tick {c : Cl} {f : Fr} {lo hi : Int} (ok : GrOk lo hi f) {Ls : List Lk} (hL : ∀ l ∈ Ls, LkOk l) (hz : Ls.length ≤ 100) {row : List Lt} {s : St} (hs : standT f Ls row = some s) (hn : row.length < 60) {b : Int × Int × Int} {v0 v1 v3 s7 v10 s11 s12 s13 s14 s15 : Slot} (h10 : v10 = .own (.lst (lts row)) ∨ v10 = .val (.lst (lts row))) (f7 : s7.free = true) (f11 : s11.free = true) (f12 : s12.free = true) (f13 : s13.free = true) (f14 : s14.free = true) (f15 : s15.free = true) : (∃ (b' : Int × Int × Int) (x : Lt) (s' : St) (t11 t12 t13 t14 t15 : Slot), standT f Ls (row ++ [x]) = some s' ∧ stepL (uName 7) (D_law_b2 c) (.int (row.length : Int)) [v0, v1, .own (box3 b), v3, .val (grD f), .val (.lst (Ls.map lkD)), .val (stD s), s7, .val (fvD c f), .val (.lst (Ls.map (lvD c))), v10, s11, s12, s13, s14, s15] = .nx [v0, v1, .own (box3 b'), v3, .val (grD f), .val (.lst (Ls.map lkD)), .val (stD s'), .val (.int (row.length : Int)), .val (fvD c f), .val (.lst (Ls.map (lvD c))), .own (.lst (lts (row ++ [x]))), t11, t12, t13, t14, t15] ∧ t11.free = true ∧ t12.free = true ∧ t13.free = true ∧ t14.free = true ∧ t15.free = true) ∨ ∃ (t11 t12 t13 t14 t15 : Slot), stepL (uName 7) (D_law_b2 c) (.int (row.length : Int)) [v0, v1, .own (box3 b), v3, .val (grD f), .val (.lst (Ls.map lkD)), .val (stD s), s7, .val (fvD c f), .val (.lst (Ls.map (lvD c))), v10, s11, s12, s13, s14, s15] = .bk [v0, v1, .own (box3 b), v3, .val (grD f), .val (.lst (Ls.map lkD)), .val (stD s), .val (.int (row.length : Int)), .val (fvD c f), .val (.lst (Ls.map (lvD c))), v10, t11, t12, t13, t14, t15] ∧ t11.free = true ∧ t12.free = true ∧ t13.free = true ∧ t14.free = true ∧ t15.free = true := by
  obtain ⟨G, t12, t13, t14, t15, e, g12, g13, g14, g15, hl, hG⟩ := letters_v (c := c) ok hL hz hs hn (v0 := v0) (v1 := v1) (v2 := .own (box3 b)) (v3 := v3) h10 f12 f13 f14 f15
  have en := eqB_gd_nil G
  have v10l : ∀ x : Lt, (lts row).length + 1 ≤ 16777216 := fun x => by simp [lts]; omega
  cases hGe : G with
  | nil =>
    subst hGe
    right
    refine ⟨.own (.lst []), t12, t13, t14, t15, ?_, rfl, g12, g13, g14, g15⟩
    simp at e en
    simp [D_law_b2, f7, f11, e]
  | cons g0 G0 =>
    left
    have hE : G.isEmpty = false := by rw [hGe]; rfl
    rw [hE] at en
    have hct : cutD (G.map gdD) none (some (1 : Int)) = (G.take 1).map gdD := by
      have := cutD_to (xs := G.map gdD) (k := 1)
      rw [List.map_take]
      exact this
    obtain ⟨d, b', gp, hd⟩ := pick_gives (c := c) b (ds := G.map gdD ++ (G.take 1).map gdD) (by rw [hGe]; simp) (by
      have : (G.take 1).length ≤ G.length := by simp; omega
      simp
      omega)
    obtain ⟨g, hg, rfl⟩ : ∃ g ∈ G, d = gdD g := by
      rcases List.mem_append.mp hd with h | h
      · obtain ⟨g, hg, e⟩ := List.mem_map.mp h
        exact ⟨g, hg, e.symm⟩
      · obtain ⟨g, hg, e⟩ := List.mem_map.mp h
        exact ⟨g, List.mem_of_mem_take hg, e.symm⟩
    obtain ⟨_, p, q⟩ := gp.elim
    have hlz : G.length + (G.take 1).length ≤ 16777216 := by
      have : (G.take 1).length ≤ G.length := by simp; omega
      omega
    have hlr := v10l g.1.1
    refine ⟨b', g.1.1, g.1.2, .own (.lst (G.map gdD)), .val (.str (ltS g.1.1)), t13, t14, t15, hG g hg, ?_, rfl, rfl, g13, g14, g15⟩
    rw [lts_snoc]
    obtain ⟨T, hT⟩ : ∃ T, (G.take 1).map gdD = T := ⟨_, rfl⟩
    have hTl : T.length = (G.take 1).length := by rw [← hT]; simp
    rw [hT] at hct p
    rw [← hTl] at hlz
    have hgd : gdD g = .tup [.str (ltS g.1.1), stD g.1.2] := rfl
    rw [hgd] at p
    have hMl : (G.map gdD).length = G.length := by simp
    rw [← hMl] at hlz
    generalize G.map gdD = M at *
    generalize lts row = R at *
    generalize ltS g.1.1 = L at *
    generalize stD g.1.2 = S at *
    generalize (row.length : Int) = n at *
    simp at p en e
    rcases h10 with rfl | rfl <;> simp [D_law_b2, f7, f11, e, en, hct, hlz, p, q, g12, hlr]
end DL
set_option linter.all false
set_option maxRecDepth 100000
set_option maxHeartbeats 2000000
namespace DL
open PySem PySem.Spec PyProof.Rows L2 DD
theorem ticks_loop {c : Cl} {f : Fr} {lo hi : Int} (ok : GrOk lo hi f) (hf : f.n ≤ 50) {Ls : List Lk} (hL : ∀ l ∈ Ls, LkOk l) (hz : Ls.length ≤ 100) {s0 : St} (hs0 : standT f Ls [] = some s0) {b : Int × Int × Int} {v0 v1 v3 s7 s11 s12 s13 s14 s15 : Slot} (f7 : s7.free = true) (f11 : s11.free = true) (f12 : s12.free = true) (f13 : s13.free = true) (f14 : s14.free = true) (f15 : s15.free = true) : ∃ (b' : Int × Int × Int) (t4 t5 t6 t7 t8 t9 t10 t11 t12 t13 t14 t15 : Slot), forL (uName 7) (D_law_b2 c) ((List.range f.n.toNat).map fun i => D.int (i : Nat)) [v0, v1, .own (box3 b), v3, .val (grD f), .val (.lst (Ls.map lkD)), .val (stD s0), s7, .val (fvD c f), .val (.lst (Ls.map (lvD c))), .own (.lst []), s11, s12, s13, s14, s15] = .nx [v0, v1, .own (box3 b'), v3, t4, t5, t6, t7, t8, t9, t10, t11, t12, t13, t14, t15] ∧ t4.free = true ∧ t5.free = true ∧ t6.free = true ∧ t7.free = true ∧ t8.free = true ∧ t9.free = true ∧ t10.free = true ∧ t11.free = true ∧ t12.free = true ∧ t13.free = true ∧ t14.free = true ∧ t15.free = true := by
  have V10 : ∀ {row : List Lt} {v : Slot}, (v = .own (.lst (lts row)) ∨ v = .val (.lst (lts row))) → v.free = true := fun h => by rcases h with rfl | rfl <;> rfl
  obtain ⟨ρ', e, b', t4, t5, t6, t7, t8, t9, t10, t11, t12, t13, t14, t15, rfl, h⟩ := forL_bk (U := uName 7) (B := D_law_b2 c) (fun i ρ => ∃ (b : Int × Int × Int) (row : List Lt) (s : St) (s7 v10 s11 s12 s13 s14 s15 : Slot), row.length = i ∧ standT f Ls row = some s ∧ (v10 = .own (.lst (lts row)) ∨ v10 = .val (.lst (lts row))) ∧ ρ = [v0, v1, .own (box3 b), v3, .val (grD f), .val (.lst (Ls.map lkD)), .val (stD s), s7, .val (fvD c f), .val (.lst (Ls.map (lvD c))), v10, s11, s12, s13, s14, s15] ∧ s7.free = true ∧ s11.free = true ∧ s12.free = true ∧ s13.free = true ∧ s14.free = true ∧ s15.free = true) (fun ρ => ∃ (b' : Int × Int × Int) (t4 t5 t6 t7 t8 t9 t10 t11 t12 t13 t14 t15 : Slot), ρ = [v0, v1, .own (box3 b'), v3, t4, t5, t6, t7, t8, t9, t10, t11, t12, t13, t14, t15] ∧ t4.free = true ∧ t5.free = true ∧ t6.free = true ∧ t7.free = true ∧ t8.free = true ∧ t9.free = true ∧ t10.free = true ∧ t11.free = true ∧ t12.free = true ∧ t13.free = true ∧ t14.free = true ∧ t15.free = true) (fun i ρ hw => by
    obtain ⟨b, row, s, s7, v10, s11, s12, s13, s14, s15, _, _, h10, rfl, f7, f11, f12, f13, f14, f15⟩ := hw
    exact ⟨b, _, _, _, s7, _, _, v10, s11, s12, s13, s14, s15, rfl, rfl, rfl, rfl, f7, rfl, rfl, V10 h10, f11, f12, f13, f14, f15⟩) (ds := (List.range f.n.toNat).map fun i => D.int (i : Nat)) (i := 0) (fun j hj ρ hw => by
    obtain ⟨b, row, s, s7, v10, s11, s12, s13, s14, s15, hr, hs, h10, rfl, f7, f11, f12, f13, f14, f15⟩ := hw
    have hj2 : j < f.n.toNat := by simpa using hj
    have hr' : row.length = j := by omega
    have hd : ((List.range f.n.toNat).map fun i => D.int (i : Nat))[j] = .int (row.length : Int) := by simp [hr']
    rw [hd]
    rcases b2_tick (c := c) ok hL hz hs (by omega) (b := b) (v0 := v0) (v1 := v1) (v3 := v3) h10 f7 f11 f12 f13 f14 f15 with ⟨b', x, s', t11, t12, t13, t14, t15, hs', e, g11, g12, g13, g14, g15⟩ | ⟨t11, t12, t13, t14, t15, e, g11, g12, g13, g14, g15⟩
    · exact .inl ⟨_, e, b', row ++ [x], s', _, _, t11, t12, t13, t14, t15, by simp; omega, hs', .inl rfl, rfl, rfl, g11, g12, g13, g14, g15⟩
    · exact .inr ⟨_, e, b, _, _, _, _, _, _, v10, t11, t12, t13, t14, t15, rfl, rfl, rfl, rfl, rfl, rfl, rfl, V10 h10, g11, g12, g13, g14, g15⟩) (ρ := [v0, v1, .own (box3 b), v3, .val (grD f), .val (.lst (Ls.map lkD)), .val (stD s0), s7, .val (fvD c f), .val (.lst (Ls.map (lvD c))), .own (.lst []), s11, s12, s13, s14, s15]) ⟨b, [], s0, s7, _, s11, s12, s13, s14, s15, rfl, hs0, .inl rfl, rfl, f7, f11, f12, f13, f14, f15⟩
  exact ⟨b', t4, t5, t6, t7, t8, t9, t10, t11, t12, t13, t14, t15, e, h⟩
theorem b3_v {c : Cl} {b : Int × Int × Int} {v0 v1 v3 s4 s5 s6 s7 s8 s9 s10 s11 s12 s13 s14 s15 : Slot} (f4 : s4.free = true) (f5 : s5.free = true) (f6 : s6.free = true) (f7 : s7.free = true) (f8 : s8.free = true) (f9 : s9.free = true) (f10 : s10.free = true) (f11 : s11.free = true) (f12 : s12.free = true) (f13 : s13.free = true) (f14 : s14.free = true) (f15 : s15.free = true) : ∃ (b' : Int × Int × Int) (t4 t5 t6 t7 t8 t9 t10 t11 t12 t13 t14 t15 : Slot), D_law_b3 c [v0, v1, .own (box3 b), v3, s4, s5, s6, s7, s8, s9, s10, s11, s12, s13, s14, s15] = .nx [v0, v1, .own (box3 b'), v3, t4, t5, t6, t7, t8, t9, t10, t11, t12, t13, t14, t15] ∧ t4.free = true ∧ t5.free = true ∧ t6.free = true ∧ t7.free = true ∧ t8.free = true ∧ t9.free = true ∧ t10.free = true ∧ t11.free = true ∧ t12.free = true ∧ t13.free = true ∧ t14.free = true ∧ t15.free = true := by
  obtain ⟨f, b1, g1, ok⟩ := ground_gives (c := c) b (lo := 4) (hi := 12) (by omega) (by omega) (by omega)
  have hfn : f.n ≤ 12 := ok.n
  have hf1 := ok.i.n
  obtain ⟨N, b2, g2, n0, n1⟩ := take_gives (c := c) b1 (m := 3) (by omega) (by omega)
  obtain ⟨Ls, b3, g3, hL, hl⟩ := looks_gives (c := c) ok (by omega) b2 (N := N) n0 (by omega)
  have hz : Ls.length ≤ 100 := by omega
  obtain ⟨_, p1, q1⟩ := g1.elim
  obtain ⟨_, p2, q2⟩ := g2.elim
  obtain ⟨_, p3, q3⟩ := g3.elim
  obtain ⟨_, p4⟩ := (frame_of_v (c := c) ok.i).elim
  obtain ⟨_, p5⟩ := (looks_of_v (c := c) hL (by omega)).elim
  obtain ⟨_, p6⟩ := (begun_v (c := c) (f := fvD c f) hL (by omega) (.inl rfl)).elim
  obtain ⟨_, p7⟩ := (standing_v (c := c) (f := f) hL (by omega) (row := []) (by simp)).elim
  have hs0 := stand_nil (Ls := Ls) ok.i.m
  have hin : StIn ⟨"", 0, 0, Ls.map fun _ => ((0, none), (0, none))⟩ := stand_in (c := c) ⟨ok.i.s, by have := ok.s; omega⟩ hL (by omega) (row := []) (by simp) hs0
  obtain ⟨z, hzr⟩ := repr_st hin
  rw [hs0] at p7
  obtain ⟨s0, hs0e⟩ : ∃ s0 : St, (⟨"", 0, 0, Ls.map fun _ => ((0, none), (0, none))⟩ : St) = s0 := ⟨_, rfl⟩
  rw [hs0e] at p6 p7 hs0 hzr
  obtain ⟨b', t4, t5, t6, t7, t8, t9, t10, t11, t12, t13, t14, t15, e, g⟩ := ticks_loop (c := c) ok (by omega) hL hz hs0 (b := b3) (v0 := v0) (v1 := v1) (v3 := v3) f7 f11 f12 f13 f14 f15
  refine ⟨b', t4, t5, t6, t7, t8, t9, t10, t11, t12, t13, t14, t15, ?_, g⟩
  have hlt : lts [] = [] := rfl
  rw [hlt] at p7
  have ho : osD (some s0) = stD s0 := rfl
  rw [ho] at p7
  have hgx : ∃ a2 a3 a4 a5, grD f = .tup [.int f.n, a2, a3, a4, a5] := ⟨_, _, _, _, rfl⟩
  obtain ⟨a2, a3, a4, a5, hgx⟩ := hgx
  have r1 : -4611686018427387904 ≤ f.n := by omega
  have r2 : f.n < 4611686018427387904 := by omega
  simp at p1 p2 p3 p4 p5 p6 p7 e
  rw [hgx] at p1 p3 p4 p7 e
  simp only [fvD] at p6 e
  generalize stD s0 = S at *
  generalize Ls.map lkD = K at *
  generalize Ls.map (lvD c) = V at *
  simp [D_law_b3, f4, f5, f6, f7, f8, f9, f10, p1, q1, p2, q2, p3, q3, p4, p5, frO, p6, p7, hzr, r1, r2, e]
theorem b4_v {c : Cl} {ns : List Int} {k : Nat} {s2 s3 s4 s5 s6 s7 s8 s9 s10 s11 s12 s13 s14 s15 : Slot} (f2 : s2.free = true) (f3 : s3.free = true) (f4 : s4.free = true) (f5 : s5.free = true) (f6 : s6.free = true) (f7 : s7.free = true) (f8 : s8.free = true) (f9 : s9.free = true) (f10 : s10.free = true) (f11 : s11.free = true) (f12 : s12.free = true) (f13 : s13.free = true) (f14 : s14.free = true) (f15 : s15.free = true) : ∃ (t2 t3 t4 t5 t6 t7 t8 t9 t10 t11 t12 t13 t14 t15 : Slot), D_law_b4 c [.val (.scr (ns.map D.int)), .val (.int k), s2, s3, s4, s5, s6, s7, s8, s9, s10, s11, s12, s13, s14, s15] = .nx [.val (.scr (ns.map D.int)), .val (.int k), t2, t3, t4, t5, t6, t7, t8, t9, t10, t11, t12, t13, t14, t15] ∧ t2.free = true ∧ t3.free = true ∧ t4.free = true ∧ t5.free = true ∧ t6.free = true ∧ t7.free = true ∧ t8.free = true ∧ t9.free = true ∧ t10.free = true ∧ t11.free = true ∧ t12.free = true ∧ t13.free = true ∧ t14.free = true ∧ t15.free = true := by
  obtain ⟨b, g⟩ := box_gives (c := c) ns k
  obtain ⟨_, p1⟩ := g.elim
  obtain ⟨ρ', e, b2, t3, t4, t5, t6, t7, t8, t9, t10, t11, t12, t13, t14, t15, rfl, g3, g4, g5, g6, g7, g8, g9, g10, g11, g12, g13, g14, g15⟩ := forR_inv (U := uName 3) (B := D_law_b3 c) (n := 4) (fun i ρ => ∃ (b : Int × Int × Int) (s3 s4 s5 s6 s7 s8 s9 s10 s11 s12 s13 s14 s15 : Slot), ρ = [.val (.scr (ns.map D.int)), .val (.int k), .own (box3 b), s3, s4, s5, s6, s7, s8, s9, s10, s11, s12, s13, s14, s15] ∧ s3.free = true ∧ s4.free = true ∧ s5.free = true ∧ s6.free = true ∧ s7.free = true ∧ s8.free = true ∧ s9.free = true ∧ s10.free = true ∧ s11.free = true ∧ s12.free = true ∧ s13.free = true ∧ s14.free = true ∧ s15.free = true) (fun i hi ρ hw => by
    obtain ⟨b, s3, s4, s5, s6, s7, s8, s9, s10, s11, s12, s13, s14, s15, rfl, f3, f4, f5, f6, f7, f8, f9, f10, f11, f12, f13, f14, f15⟩ := hw
    obtain ⟨b', t4, t5, t6, t7, t8, t9, t10, t11, t12, t13, t14, t15, e, g4, g5, g6, g7, g8, g9, g10, g11, g12, g13, g14, g15⟩ := b3_v (c := c) (b := b) (v0 := .val (.scr (ns.map D.int))) (v1 := .val (.int k)) (v3 := .val (.int i)) f4 f5 f6 f7 f8 f9 f10 f11 f12 f13 f14 f15
    exact ⟨_, .inl (by simp [f3, e] <;> rfl), b', .val (.int i), t4, t5, t6, t7, t8, t9, t10, t11, t12, t13, t14, t15, rfl, rfl, g4, g5, g6, g7, g8, g9, g10, g11, g12, g13, g14, g15⟩) (ρ := [.val (.scr (ns.map D.int)), .val (.int k), .own (box3 b), s3, s4, s5, s6, s7, s8, s9, s10, s11, s12, s13, s14, s15]) ⟨b, s3, s4, s5, s6, s7, s8, s9, s10, s11, s12, s13, s14, s15, rfl, f3, f4, f5, f6, f7, f8, f9, f10, f11, f12, f13, f14, f15⟩
  refine ⟨.own (box3 b2), t3, t4, t5, t6, t7, t8, t9, t10, t11, t12, t13, t14, t15, ?_, rfl, g3, g4, g5, g6, g7, g8, g9, g10, g11, g12, g13, g14, g15⟩
  simp at p1
  simp [D_law_b4, f2, p1, e]
theorem loop_v {c : Cl} {ns : List Int} {N : Nat} : ∃ ρ, forL (uName 1) (D_law_b4 c) ((List.range N).map fun i => D.int (i : Nat)) [.val (.scr (ns.map D.int)), .none, .none, .none, .none, .none, .none, .none, .none, .none, .none, .none, .none, .none, .none, .none] = .nx ρ := by
  obtain ⟨ρ', e, _⟩ := forR_inv (U := uName 1) (B := D_law_b4 c) (n := N) (fun i ρ => ∃ s1 s2 s3 s4 s5 s6 s7 s8 s9 s10 s11 s12 s13 s14 s15 : Slot, ρ = [.val (.scr (ns.map D.int)), s1, s2, s3, s4, s5, s6, s7, s8, s9, s10, s11, s12, s13, s14, s15] ∧ s1.free = true ∧ s2.free = true ∧ s3.free = true ∧ s4.free = true ∧ s5.free = true ∧ s6.free = true ∧ s7.free = true ∧ s8.free = true ∧ s9.free = true ∧ s10.free = true ∧ s11.free = true ∧ s12.free = true ∧ s13.free = true ∧ s14.free = true ∧ s15.free = true) (fun i hi ρ hw => by
    obtain ⟨s1, s2, s3, s4, s5, s6, s7, s8, s9, s10, s11, s12, s13, s14, s15, rfl, f1, f2, f3, f4, f5, f6, f7, f8, f9, f10, f11, f12, f13, f14, f15⟩ := hw
    obtain ⟨t2, t3, t4, t5, t6, t7, t8, t9, t10, t11, t12, t13, t14, t15, e, g2, g3, g4, g5, g6, g7, g8, g9, g10, g11, g12, g13, g14, g15⟩ := b4_v (c := c) (ns := ns) (k := i) f2 f3 f4 f5 f6 f7 f8 f9 f10 f11 f12 f13 f14 f15
    exact ⟨_, .inl (by simp [f1, e] <;> rfl), .val (.int i), t2, t3, t4, t5, t6, t7, t8, t9, t10, t11, t12, t13, t14, t15, rfl, rfl, g2, g3, g4, g5, g6, g7, g8, g9, g10, g11, g12, g13, g14, g15⟩) (ρ := [.val (.scr (ns.map D.int)), .none, .none, .none, .none, .none, .none, .none, .none, .none, .none, .none, .none, .none, .none, .none]) ⟨_, _, _, _, _, _, _, _, _, _, _, _, _, _, _, rfl, rfl, rfl, rfl, rfl, rfl, rfl, rfl, rfl, rfl, rfl, rfl, rfl, rfl, rfl, rfl⟩
  exact ⟨ρ', e⟩
theorem rng1_int {A : En → Res X} {ρ ρ1 : En} {x : Int} (h : A ρ = .ok (.val (.int x)) ρ1) (h0 : 0 ≤ x) (h1 : x ≤ 1000) : dRng1 A ρ = .ok ((List.range x.toNat).map fun i => D.int (i : Nat)) ρ1 := by
  have r1 : -4611686018427387904 ≤ x := by omega
  have r2 : x < 4611686018427387904 := by omega
  simp [h, r1, r2]
def lawN : En → Res (List D) := (dRng1 (dCB fMax (aCons (dC (.int 1)) (aCons (dCB fMin (aCons (dC (.int 3)) (aCons (dCB fLen (aCons (dVar 0) aNil)) aNil))) aNil))))
theorem lawN_v {ns : List Int} : ∃ N : Nat, lawN [.val (.scr (ns.map D.int)), .none, .none, .none, .none, .none, .none, .none, .none, .none, .none, .none, .none, .none, .none, .none] = .ok ((List.range N).map fun i => D.int (i : Nat)) [.val (.scr (ns.map D.int)), .none, .none, .none, .none, .none, .none, .none, .none, .none, .none, .none, .none, .none, .none, .none] := by
  obtain ⟨x, hx, h0, h1⟩ : ∃ x : Int, (if (if (ns.length : Int) < 3 then (ns.length : Int) else 3) > 1 then (if (ns.length : Int) < 3 then (ns.length : Int) else 3) else 1) = x ∧ 0 ≤ x ∧ x ≤ 3 := by
    refine ⟨_, rfl, ?_, ?_⟩ <;> (repeat' split) <;> omega
  refine ⟨x.toNat, rng1_int ?_ h0 (by omega)⟩
  simp at hx
  simp [hx]
noncomputable def lawE : En → SR := (sRet (dC (.bl true)))
theorem law_eq3 {c : Cl} : D_law c = (sSeq (sFor lawN (uName 1) (D_law_b4 c)) lawE) := rfl
theorem law_ok (c : Cl) : LawOk 16 (D_law c) := by
  intro ns hn
  obtain ⟨N, hN⟩ := lawN_v (ns := ns)
  obtain ⟨ρ, e⟩ := loop_v (c := c) (ns := ns) (N := N)
  have l : lawE ρ = .rt (.val (.bl true)) ρ := rfl
  have g : Gives 16 (D_law c) [.scr (ns.map D.int)] (.val (.bl true)) := by
    rw [law_eq3]
    show resV (fin (match (lawN [.val (.scr (ns.map D.int)), .none, .none, .none, .none, .none, .none, .none, .none, .none, .none, .none, .none, .none, .none, .none]).sb fun ds ρ1 => forL (uName 1) (D_law_b4 c) ds ρ1 with
      | .nx ρ1 => lawE ρ1
      | r => r)) = _
    rw [hN]
    show resV (fin (match forL (uName 1) (D_law_b4 c) ((List.range N).map fun i => D.int (i : Nat)) [.val (.scr (ns.map D.int)), .none, .none, .none, .none, .none, .none, .none, .none, .none, .none, .none, .none, .none, .none, .none] with
      | .nx ρ1 => lawE ρ1
      | r => r)) = _
    rw [e]
    show resV (fin (lawE ρ)) = _
    rw [l]
    rfl
  exact g.elim
end DL
set_option Elab.async false
set_option linter.all false
set_option maxRecDepth 100000
set_option maxHeartbeats 4000000
namespace DD
open PySem PySem.Spec PyProof.Rows L2 StX ClX DL
theorem kit_str {K : PySem.W.Frag} {C : Addr} (h1 : PySem.W.isClsIn K C = true) (h2 : PySem.W.typeIn K (.ref C) = some (.type "type")) (h3 : PySem.W.subIn K (.type "str") (.ref C) = some false) : PySem.W.kitOne K (.type "str") (.ref C) = some false := by
  have h4 : (PySem.W.clsIn K C).isSome = true := h1
  simp [PySem.W.kitOne, PySem.W.kitCls, h4, h2, h3]
section
variable {P : Program} {w : World} {K : PySem.W.Frag} {mg : Str → Option Value} {base : Heap} {d : Ad}
theorem ok_law {f : Addr} {fd : FuncData} (T : Txt K mg d) (F : Fun K "law" "law" s_law f fd) : FnG P w K mg base 9 f fd ["_law_script"] (spLaw K) := by
  refine fun_okG F sc_law (fun vs H Q E h => ?_) (fun cdv A outer s H vs Q E hr hg h => ?_)
  · obtain ⟨_, _, rfl, _⟩ := h
    rfl
  · have hu := hr.units
    have hu5 := room5 hr
    exact ⟨_, (pss_cons (ps_for PassesOwn.never rfl (pi_range1 rfl T.b_range (pa_cons (pe_callB (call_max2 rfl) (by rfl) T.b_max (by decide +kernel) (pa_cons pe_int (pa_cons (pe_callB (call_min2 rfl) (by rfl) T.b_min (by decide +kernel) (pa_cons pe_int (pa_cons (pe_callB (call_len2 (K := K)) (by rfl) T.b_len PySem.boot_len (pa_cons (pv 0) pa_nil)) pa_nil))) pa_nil))) pa_nil)) (pg_name (i := 1) sc_law.nd rfl (by first | exact Or.inl rfl | exact Or.inr rfl)) (pss_cons (ps_set (i := 2) sc_law.nd rfl (by first | exact Or.inl rfl | exact Or.inr rfl) (pe_callR (sp := spD0 K 2 4 (D__law_box (cl d))) (ok__law_box T) (hr.mono (by decide)) rfl T.m__law_box T.k__law_box pass0 (pa_cons (pv 0) (pa_cons (pv 1) pa_nil)))) (pss_one (ps_for PassesOwn.never rfl (pi_range1 rfl T.b_range (pa_cons pe_int pa_nil)) (pg_name (i := 3) sc_law.nd rfl (by first | exact Or.inl rfl | exact Or.inr rfl)) (pss_cons (ps_set (i := 4) sc_law.nd rfl (by first | exact Or.inl rfl | exact Or.inr rfl) (pe_callR (sp := spD0 K 3 9 (D__law_ground (cl d))) (ok__law_ground T) (hr.mono (by decide)) rfl T.m__law_ground T.k__law_ground pass0 (pa_cons (pv 2) (pa_cons pe_int (pa_cons pe_int pa_nil))))) (pss_cons (ps_set (i := 5) sc_law.nd rfl (by first | exact Or.inl rfl | exact Or.inr rfl) (pe_callR (sp := spD0 K 3 8 (D__law_looks (cl d))) (ok__law_looks T) (hr.mono (by decide)) rfl T.m__law_looks T.k__law_looks pass0 (pa_cons (pv 2) (pa_cons (pv 4) (pa_cons (pe_callR (sp := spD0 K 2 4 (D__law_take (cl d))) (ok__law_take T) (hr.mono (by decide)) rfl T.m__law_take T.k__law_take pass0 (pa_cons (pv 2) (pa_cons pe_int pa_nil))) pa_nil))))) (pss_cons (ps_par3 (i := 8) (j := 9) (l := 10) rfl sc_law.nd rfl rfl rfl (by decide) (by decide) (by decide) rfl rfl rfl (pa_cons (pe_callR (sp := spD0 K 1 1 (D__law_frame_of (cl d))) (ok__law_frame_of T) (hr.mono (by decide)) rfl T.m__law_frame_of T.k__law_frame_of pass0 (pa_cons (pv 4) pa_nil)) (pa_cons (pe_callR (sp := spD0 K 1 3 (D__law_looks_of (cl d))) (ok__law_looks_of T) (hr.mono (by decide)) rfl T.m__law_looks_of T.k__law_looks_of pass0 (pa_cons (pv 5) pa_nil)) (pa_cons (pe_lst pa_nil) pa_nil))) (by rfl)) (pss_cons (ps_set (i := 6) sc_law.nd rfl (by first | exact Or.inl rfl | exact Or.inr rfl) (pe_callR (sp := spD0 K 2 2 (D_begun (cl d))) (ok_begun T) (hr.mono (by decide)) rfl T.m_begun T.k_begun pass0 (pa_cons (pv 8) (pa_cons (pv 9) pa_nil)))) (pss_cons (ps_if (pt_cmpR (op_ne2 (K := K) hu) (pe_callB (call_repr3 (K := K) hg hu) (by rfl) T.b_repr (by decide +kernel) (pa_cons (pv 6) pa_nil)) (pe_callB (call_repr3 (K := K) hg hu) (by rfl) T.b_repr (by decide +kernel) (pa_cons (pe_callR (sp := spD0 K 3 13 (D__law_standing (cl d))) (ok__law_standing T) (hr.mono (by decide)) rfl T.m__law_standing T.k__law_standing pass0 (pa_cons (pv 4) (pa_cons (pv 5) (pa_cons (pe_lst pa_nil) pa_nil)))) pa_nil)) (nomark _)) (pss_one (ps_ret pe_bl)) pss_nil) (pss_one (ps_for PassesOwn.never rfl (pi_range1 rfl T.b_range (pa_cons (pe_ix (ix_3 (K := K)) (pv 4) pe_int (fun _ _ => rfl)) pa_nil)) (pg_name (i := 7) sc_law.nd rfl (by first | exact Or.inl rfl | exact Or.inr rfl)) (pss_cons (ps_set (i := 11) sc_law.nd rfl (by first | exact Or.inl rfl | exact Or.inr rfl) (pe_lst pa_nil)) (pss_cons (ps_for PassesOwn.never rfl (pi_seq (K := K) (pe_tup (pa_cons pe_str (pa_cons pe_str (pa_cons pe_str (pa_cons pe_str pa_nil)))))) (pg_name (i := 12) sc_law.nd rfl (by first | exact Or.inl rfl | exact Or.inr rfl)) (pss_cons (ps_set (i := 13) sc_law.nd rfl (by first | exact Or.inl rfl | exact Or.inr rfl) (pe_callR (sp := spD0 K 3 13 (D__law_standing (cl d))) (ok__law_standing T) (hr.mono (by decide)) rfl T.m__law_standing T.k__law_standing pass0 (pa_cons (pv 4) (pa_cons (pv 5) (pa_cons (pe_op (op_add4 (K := K)) (pv 10) (pe_lst (pa_cons (pv 12) pa_nil))) pa_nil))))) (pss_cons (ps_set (i := 14) sc_law.nd rfl (by first | exact Or.inl rfl | exact Or.inr rfl) (pe_callR (sp := spD0 K 5 5 (D_after (cl d))) (ok_after T) (hr.mono (by decide)) rfl T.m_after T.k_after pass0 (pa_cons (pv 8) (pa_cons (pv 9) (pa_cons (pv 7) (pa_cons (pv 6) (pa_cons (pv 12) pa_nil))))))) (pss_cons (ps_set (i := 15) sc_law.nd rfl (by first | exact Or.inl rfl | exact Or.inr rfl) (pe_callR (sp := spD0 K 5 5 (D_after (cl d))) (ok_after T) (hr.mono (by decide)) rfl T.m_after T.k_after pass0 (pa_cons (pv 8) (pa_cons (pe_callTy call_tuple_of rfl T.b_tuple (by decide +kernel) (pa_cons (pv 9) pa_nil)) (pa_cons (pv 7) (pa_cons (pv 6) (pa_cons (pv 12) pa_nil))))))) (pss_cons (ps_if (PW.pt (pw_or (pt_cmpR (op_ne2 (K := K) hu) (pe_callB (call_repr3 (K := K) hg hu) (by rfl) T.b_repr (by decide +kernel) (pa_cons (pv 14) pa_nil)) (pe_callB (call_repr3 (K := K) hg hu) (by rfl) T.b_repr (by decide +kernel) (pa_cons (pv 13) pa_nil)) (nomark _)) (pw_or1 (pt_cmpR (op_ne2 (K := K) hu) (pe_callB (call_repr3 (K := K) hg hu) (by rfl) T.b_repr (by decide +kernel) (pa_cons (pv 15) pa_nil)) (pe_callB (call_repr3 (K := K) hg hu) (by rfl) T.b_repr (by decide +kernel) (pa_cons (pv 13) pa_nil)) (nomark _))))) (pss_one (ps_ret pe_bl)) pss_nil) (pss_one (ps_expr (pe_bm PySem.F.plainAttrs_list PySem.F.slot_list_extend PySem.F.type_list_extend mt_extend (pv 11) (pa_cons (pe_ifExp (pt_cmp (pc_notN (pv 13))) (pe_lst (pa_cons (pe_tup (pa_cons (pv 12) (pa_cons (pv 14) pa_nil))) pa_nil)) (pe_lst pa_nil)) pa_nil))))))))) (pss_cons (ps_if (pt_cmpR (op_eq2 (K := K) hu) (pv 11) (pe_lst pa_nil) (nomark _)) (pss_one ps_break) pss_nil) (pss_cons (ps_asg (pe_callR (sp := spD0 K 2 2 (D__law_pick (cl d))) (ok__law_pick T) (hr.mono (by decide)) rfl T.m__law_pick T.k__law_pick pass0 (pa_cons (pv 2) (pa_cons (pe_op (op_add4 (K := K)) (pv 11) (pe_slice (sl_3 (K := K)) (pv 11) po_none (po_some pe_int))) pa_nil))) (pg_tupK (K := K) (n := 2) rfl (pgs_cons (pg_name (i := 12) sc_law.nd rfl (by first | exact Or.inl rfl | exact Or.inr rfl)) (pgs_cons (pg_name (i := 6) sc_law.nd rfl (by first | exact Or.inl rfl | exact Or.inr rfl)) pgs_nil)))) (pss_one (ps_set (i := 10) sc_law.nd rfl (by first | exact Or.inl rfl | exact Or.inr rfl) (pe_op (op_add4 (K := K)) (pv 10) (pe_lst (pa_cons (pv 12) pa_nil)))))))))))))))))))) (pss_one (ps_ret pe_bl))), law_run (T := D_law (cl d)) (by decide) (L_seq (L_for (vs := [1]) (I_rng1 (L_cb C_max (A_cons L_int (A_cons (L_cb C_min (A_cons L_int (A_cons (L_cb C_len (A_cons (L_var (i := 0)) A_nil)) A_nil))) A_nil)))) (U_name (by decide)) (L_seq (L_set (Lz_call (A_cons (L_var (i := 0)) (A_cons (L_var (i := 1)) A_nil)))) (L_for (vs := [3]) (I_rng1 L_int) (U_name (by decide)) (L_seq (L_set (Lz_lend (i := 2) (A_cons L_int (A_cons L_int A_nil)))) (L_seq (L_set (Lz_lend (i := 2) (A_cons (L_var (i := 4)) (A_cons (Lz_lend (i := 2) (A_cons L_int A_nil)) A_nil)))) (L_seq (L_par3 (N_cons (Lz_call (A_cons (L_var (i := 4)) A_nil)) (N_cons (Lz_call (A_cons (L_var (i := 5)) A_nil)) (N_cons (L_lst A_nil) N_nil)))) (L_seq (L_set (Lz_call (A_cons (L_var (i := 8)) (A_cons (L_var (i := 9)) A_nil)))) (L_seq (L_if (L_test (L_bin S_ne (L_cb C_repr3 (A_cons (L_var (i := 6)) A_nil)) (L_cb C_repr3 (A_cons (Lz_call (A_cons (L_var (i := 4)) (A_cons (L_var (i := 5)) (A_cons (L_lst A_nil) A_nil)))) A_nil)))) (L_ret L_bl) L_next) (L_for (vs := [7]) (I_rng1 (L_bin S_ix (L_var (i := 4)) L_int)) (U_name (by decide)) (L_seq (L_set (L_lst A_nil)) (L_seq (L_forS (vs := [12]) (L_tup (A_cons L_str (A_cons L_str (A_cons L_str (A_cons L_str A_nil))))) (U_name (by decide)) (L_seq (L_set (Lz_call (A_cons (L_var (i := 4)) (A_cons (L_var (i := 5)) (A_cons (L_bin S_add4 (L_var (i := 10)) (L_lst (A_cons (L_var (i := 12)) A_nil))) A_nil))))) (L_seq (L_set (Lz_call (A_cons (L_var (i := 8)) (A_cons (L_var (i := 9)) (A_cons (L_var (i := 7)) (A_cons (L_var (i := 6)) (A_cons (L_var (i := 12)) A_nil))))))) (L_seq (L_set (Lz_call (A_cons (L_var (i := 8)) (A_cons (L_cb C_tuple (A_cons (L_var (i := 9)) A_nil)) (A_cons (L_var (i := 7)) (A_cons (L_var (i := 6)) (A_cons (L_var (i := 12)) A_nil))))))) (L_seq (L_if (L_tor (L_test (L_bin S_ne (L_cb C_repr3 (A_cons (L_var (i := 14)) A_nil)) (L_cb C_repr3 (A_cons (L_var (i := 13)) A_nil)))) (L_test (L_bin S_ne (L_cb C_repr3 (A_cons (L_var (i := 15)) A_nil)) (L_cb C_repr3 (A_cons (L_var (i := 13)) A_nil))))) (L_ret L_bl) L_next) (L_drop (L_mut (i := 11) M_extend (A_cons (L_ifE (L_test (L_notN (L_var (i := 13)))) (L_lst (A_cons (L_tup (A_cons (L_var (i := 12)) (A_cons (L_var (i := 14)) A_nil))) A_nil)) (L_lst A_nil)) A_nil)))))))) (L_seq (L_if (L_test (L_bin S_eq (L_var (i := 11)) (L_lst A_nil))) L_break L_next) (L_seq (L_tgt (vs := [12, 6]) (Lz_lend (i := 2) (A_cons (L_bin S_add4 (L_var (i := 11)) (L_sl (L_var (i := 11)) O_none (O_some L_int))) A_nil)) (U_tup (Us_cons (U_name (by decide)) (Us_cons (U_name (by decide)) Us_nil)))) (L_set (L_bin S_add4 (L_var (i := 10)) (L_lst (A_cons (L_var (i := 12)) A_nil))))))))))))))))) (L_ret L_bl)) (law_ok (cl d)) h⟩
end
theorem all_mk {l : PySem.W.OpenLaw} {w : World} {K : PySem.W.Frag} {h : Heap} {mg : Str → Option Value} {fa : Addr} (X : K.In h) (G : h.Ns mainGlobals mg) (hfa : mg "law" = some (.ref fa))
    {f__law_box f_is_integer f_is_number f__is_known f_is_sequence f__are_known f_is_positive f_wrong_argument_frames f__law_frame_of f__law_take f__law_pick f__law_ground f__law_taken f__law_lets f__law_meetings f__law_drawn f__law_rule f__law_sort f__law_painted f__law_blocks f__law_show f__law_looks f__are_hours f_wrong_argument_rules f__law_rule_of f__law_looks_of f__law_is_row f__law_runs f__law_part f__law_read f__law_standing f__is_block f_is_view f_is_look f_check_looks f_is_let f_word_shown f_make_makers f__begun_head f_is_long_enough f_next_head f_put_up f_span_shown f_is_joined f_put_down f__next_tally f__next_pair f_next_making f_next_standing f_after f_first_standing f_begun f_law f_Rule___init__ f_Frame___init__ f_Maker___init__ f_Maker_takes f_Maker_gone_on f_Maker_laid f_Maker_started C_Rule C_Frame C_Maker c_FIRST_HEAD c_FIRST_TALLY c_KINDS c_PRIVATE_WORDS c_WORDS : Addr}
     (a_Maker : PySem.W.nsIn K mainGlobals "Maker" = some (some (.ref C_Maker)))
     (a_Frame : PySem.W.nsIn K mainGlobals "Frame" = some (some (.ref C_Frame)))
     (a_Rule : PySem.W.nsIn K mainGlobals "Rule" = some (some (.ref C_Rule)))
    {oc__law_box kV__law_box do__law_box pm__law_box cd__law_box ct__law_box : Value} {od__law_box an__law_box : Option Addr} {sl__law_box : Array (Option Value)} (a__law_box : PySem.W.nsIn K mainGlobals "_law_box" = some (some (.ref f__law_box)))
     (l__law_box : K.lookup f__law_box = some ⟨oc__law_box, od__law_box, .func (PySem.W.fnOf "_law_box" "_law_box" (defArgs s__law_box) (defBody s__law_box) (defScope s__law_box) .none kV__law_box do__law_box pm__law_box an__law_box cd__law_box ct__law_box), sl__law_box⟩)
     (c__law_box : PySem.W.codeIn K cd__law_box "_law_box" = true)
     (k__law_box : PySem.W.keepIn K (.ref f__law_box) = true)
    {oc_is_integer kV_is_integer do_is_integer pm_is_integer cd_is_integer ct_is_integer : Value} {od_is_integer an_is_integer : Option Addr} {sl_is_integer : Array (Option Value)} (a_is_integer : PySem.W.nsIn K mainGlobals "is_integer" = some (some (.ref f_is_integer)))
     (l_is_integer : K.lookup f_is_integer = some ⟨oc_is_integer, od_is_integer, .func (PySem.W.fnOf "is_integer" "is_integer" (defArgs s_is_integer) (defBody s_is_integer) (defScope s_is_integer) .none kV_is_integer do_is_integer pm_is_integer an_is_integer cd_is_integer ct_is_integer), sl_is_integer⟩)
     (c_is_integer : PySem.W.codeIn K cd_is_integer "is_integer" = true)
     (k_is_integer : PySem.W.keepIn K (.ref f_is_integer) = true)
    {oc_is_number kV_is_number do_is_number pm_is_number cd_is_number ct_is_number : Value} {od_is_number an_is_number : Option Addr} {sl_is_number : Array (Option Value)} (a_is_number : PySem.W.nsIn K mainGlobals "is_number" = some (some (.ref f_is_number)))
     (l_is_number : K.lookup f_is_number = some ⟨oc_is_number, od_is_number, .func (PySem.W.fnOf "is_number" "is_number" (defArgs s_is_number) (defBody s_is_number) (defScope s_is_number) .none kV_is_number do_is_number pm_is_number an_is_number cd_is_number ct_is_number), sl_is_number⟩)
     (c_is_number : PySem.W.codeIn K cd_is_number "is_number" = true)
     (k_is_number : PySem.W.keepIn K (.ref f_is_number) = true)
    {oc__is_known kV__is_known do__is_known pm__is_known cd__is_known ct__is_known : Value} {od__is_known an__is_known : Option Addr} {sl__is_known : Array (Option Value)} (a__is_known : PySem.W.nsIn K mainGlobals "_is_known" = some (some (.ref f__is_known)))
     (l__is_known : K.lookup f__is_known = some ⟨oc__is_known, od__is_known, .func (PySem.W.fnOf "_is_known" "_is_known" (defArgs s__is_known) (defBody s__is_known) (defScope s__is_known) .none kV__is_known do__is_known pm__is_known an__is_known cd__is_known ct__is_known), sl__is_known⟩)
     (c__is_known : PySem.W.codeIn K cd__is_known "_is_known" = true)
     (k__is_known : PySem.W.keepIn K (.ref f__is_known) = true)
    {oc_is_sequence kV_is_sequence do_is_sequence pm_is_sequence cd_is_sequence ct_is_sequence : Value} {od_is_sequence an_is_sequence : Option Addr} {sl_is_sequence : Array (Option Value)} (a_is_sequence : PySem.W.nsIn K mainGlobals "is_sequence" = some (some (.ref f_is_sequence)))
     (l_is_sequence : K.lookup f_is_sequence = some ⟨oc_is_sequence, od_is_sequence, .func (PySem.W.fnOf "is_sequence" "is_sequence" (defArgs s_is_sequence) (defBody s_is_sequence) (defScope s_is_sequence) .none kV_is_sequence do_is_sequence pm_is_sequence an_is_sequence cd_is_sequence ct_is_sequence), sl_is_sequence⟩)
     (c_is_sequence : PySem.W.codeIn K cd_is_sequence "is_sequence" = true)
     (k_is_sequence : PySem.W.keepIn K (.ref f_is_sequence) = true)
    {oc__are_known kV__are_known do__are_known pm__are_known cd__are_known ct__are_known : Value} {od__are_known an__are_known : Option Addr} {sl__are_known : Array (Option Value)} (a__are_known : PySem.W.nsIn K mainGlobals "_are_known" = some (some (.ref f__are_known)))
     (l__are_known : K.lookup f__are_known = some ⟨oc__are_known, od__are_known, .func (PySem.W.fnOf "_are_known" "_are_known" (defArgs s__are_known) (defBody s__are_known) (defScope s__are_known) .none kV__are_known do__are_known pm__are_known an__are_known cd__are_known ct__are_known), sl__are_known⟩)
     (c__are_known : PySem.W.codeIn K cd__are_known "_are_known" = true)
     (k__are_known : PySem.W.keepIn K (.ref f__are_known) = true)
    {oc_is_positive kV_is_positive do_is_positive pm_is_positive cd_is_positive ct_is_positive : Value} {od_is_positive an_is_positive : Option Addr} {sl_is_positive : Array (Option Value)} (a_is_positive : PySem.W.nsIn K mainGlobals "is_positive" = some (some (.ref f_is_positive)))
     (l_is_positive : K.lookup f_is_positive = some ⟨oc_is_positive, od_is_positive, .func (PySem.W.fnOf "is_positive" "is_positive" (defArgs s_is_positive) (defBody s_is_positive) (defScope s_is_positive) .none kV_is_positive do_is_positive pm_is_positive an_is_positive cd_is_positive ct_is_positive), sl_is_positive⟩)
     (c_is_positive : PySem.W.codeIn K cd_is_positive "is_positive" = true)
     (k_is_positive : PySem.W.keepIn K (.ref f_is_positive) = true)
    {oc_wrong_argument_frames kV_wrong_argument_frames do_wrong_argument_frames pm_wrong_argument_frames cd_wrong_argument_frames ct_wrong_argument_frames : Value} {od_wrong_argument_frames an_wrong_argument_frames : Option Addr} {sl_wrong_argument_frames : Array (Option Value)} (a_wrong_argument_frames : PySem.W.nsIn K mainGlobals "wrong_argument_frames" = some (some (.ref f_wrong_argument_frames)))
     (l_wrong_argument_frames : K.lookup f_wrong_argument_frames = some ⟨oc_wrong_argument_frames, od_wrong_argument_frames, .func (PySem.W.fnOf "_wrong_argument" "_wrong_argument" (defArgs s_wrong_argument_frames) (defBody s_wrong_argument_frames) (defScope s_wrong_argument_frames) .none kV_wrong_argument_frames do_wrong_argument_frames pm_wrong_argument_frames an_wrong_argument_frames cd_wrong_argument_frames ct_wrong_argument_frames), sl_wrong_argument_frames⟩)
     (c_wrong_argument_frames : PySem.W.codeIn K cd_wrong_argument_frames "_wrong_argument" = true)
     (k_wrong_argument_frames : PySem.W.keepIn K (.ref f_wrong_argument_frames) = true)
    {oc__law_frame_of kV__law_frame_of do__law_frame_of pm__law_frame_of cd__law_frame_of ct__law_frame_of : Value} {od__law_frame_of an__law_frame_of : Option Addr} {sl__law_frame_of : Array (Option Value)} (a__law_frame_of : PySem.W.nsIn K mainGlobals "_law_frame_of" = some (some (.ref f__law_frame_of)))
     (l__law_frame_of : K.lookup f__law_frame_of = some ⟨oc__law_frame_of, od__law_frame_of, .func (PySem.W.fnOf "_law_frame_of" "_law_frame_of" (defArgs s__law_frame_of) (defBody s__law_frame_of) (defScope s__law_frame_of) .none kV__law_frame_of do__law_frame_of pm__law_frame_of an__law_frame_of cd__law_frame_of ct__law_frame_of), sl__law_frame_of⟩)
     (c__law_frame_of : PySem.W.codeIn K cd__law_frame_of "_law_frame_of" = true)
     (k__law_frame_of : PySem.W.keepIn K (.ref f__law_frame_of) = true)
    {oc__law_take kV__law_take do__law_take pm__law_take cd__law_take ct__law_take : Value} {od__law_take an__law_take : Option Addr} {sl__law_take : Array (Option Value)} (a__law_take : PySem.W.nsIn K mainGlobals "_law_take" = some (some (.ref f__law_take)))
     (l__law_take : K.lookup f__law_take = some ⟨oc__law_take, od__law_take, .func (PySem.W.fnOf "_law_take" "_law_take" (defArgs s__law_take) (defBody s__law_take) (defScope s__law_take) .none kV__law_take do__law_take pm__law_take an__law_take cd__law_take ct__law_take), sl__law_take⟩)
     (c__law_take : PySem.W.codeIn K cd__law_take "_law_take" = true)
     (k__law_take : PySem.W.keepIn K (.ref f__law_take) = true)
    {oc__law_pick kV__law_pick do__law_pick pm__law_pick cd__law_pick ct__law_pick : Value} {od__law_pick an__law_pick : Option Addr} {sl__law_pick : Array (Option Value)} (a__law_pick : PySem.W.nsIn K mainGlobals "_law_pick" = some (some (.ref f__law_pick)))
     (l__law_pick : K.lookup f__law_pick = some ⟨oc__law_pick, od__law_pick, .func (PySem.W.fnOf "_law_pick" "_law_pick" (defArgs s__law_pick) (defBody s__law_pick) (defScope s__law_pick) .none kV__law_pick do__law_pick pm__law_pick an__law_pick cd__law_pick ct__law_pick), sl__law_pick⟩)
     (c__law_pick : PySem.W.codeIn K cd__law_pick "_law_pick" = true)
     (k__law_pick : PySem.W.keepIn K (.ref f__law_pick) = true)
    {oc__law_ground kV__law_ground do__law_ground pm__law_ground cd__law_ground ct__law_ground : Value} {od__law_ground an__law_ground : Option Addr} {sl__law_ground : Array (Option Value)} (a__law_ground : PySem.W.nsIn K mainGlobals "_law_ground" = some (some (.ref f__law_ground)))
     (l__law_ground : K.lookup f__law_ground = some ⟨oc__law_ground, od__law_ground, .func (PySem.W.fnOf "_law_ground" "_law_ground" (defArgs s__law_ground) (defBody s__law_ground) (defScope s__law_ground) .none kV__law_ground do__law_ground pm__law_ground an__law_ground cd__law_ground ct__law_ground), sl__law_ground⟩)
     (c__law_ground : PySem.W.codeIn K cd__law_ground "_law_ground" = true)
     (k__law_ground : PySem.W.keepIn K (.ref f__law_ground) = true)
    {oc__law_taken kV__law_taken do__law_taken pm__law_taken cd__law_taken ct__law_taken : Value} {od__law_taken an__law_taken : Option Addr} {sl__law_taken : Array (Option Value)} (a__law_taken : PySem.W.nsIn K mainGlobals "_law_taken" = some (some (.ref f__law_taken)))
     (l__law_taken : K.lookup f__law_taken = some ⟨oc__law_taken, od__law_taken, .func (PySem.W.fnOf "_law_taken" "_law_taken" (defArgs s__law_taken) (defBody s__law_taken) (defScope s__law_taken) .none kV__law_taken do__law_taken pm__law_taken an__law_taken cd__law_taken ct__law_taken), sl__law_taken⟩)
     (c__law_taken : PySem.W.codeIn K cd__law_taken "_law_taken" = true)
     (k__law_taken : PySem.W.keepIn K (.ref f__law_taken) = true)
    {oc__law_lets kV__law_lets do__law_lets pm__law_lets cd__law_lets ct__law_lets : Value} {od__law_lets an__law_lets : Option Addr} {sl__law_lets : Array (Option Value)} (a__law_lets : PySem.W.nsIn K mainGlobals "_law_lets" = some (some (.ref f__law_lets)))
     (l__law_lets : K.lookup f__law_lets = some ⟨oc__law_lets, od__law_lets, .func (PySem.W.fnOf "_law_lets" "_law_lets" (defArgs s__law_lets) (defBody s__law_lets) (defScope s__law_lets) .none kV__law_lets do__law_lets pm__law_lets an__law_lets cd__law_lets ct__law_lets), sl__law_lets⟩)
     (c__law_lets : PySem.W.codeIn K cd__law_lets "_law_lets" = true)
     (k__law_lets : PySem.W.keepIn K (.ref f__law_lets) = true)
    {oc__law_meetings kV__law_meetings do__law_meetings pm__law_meetings cd__law_meetings ct__law_meetings : Value} {od__law_meetings an__law_meetings : Option Addr} {sl__law_meetings : Array (Option Value)} (a__law_meetings : PySem.W.nsIn K mainGlobals "_law_meetings" = some (some (.ref f__law_meetings)))
     (l__law_meetings : K.lookup f__law_meetings = some ⟨oc__law_meetings, od__law_meetings, .func (PySem.W.fnOf "_law_meetings" "_law_meetings" (defArgs s__law_meetings) (defBody s__law_meetings) (defScope s__law_meetings) .none kV__law_meetings do__law_meetings pm__law_meetings an__law_meetings cd__law_meetings ct__law_meetings), sl__law_meetings⟩)
     (c__law_meetings : PySem.W.codeIn K cd__law_meetings "_law_meetings" = true)
     (k__law_meetings : PySem.W.keepIn K (.ref f__law_meetings) = true)
    {oc__law_drawn kV__law_drawn do__law_drawn pm__law_drawn cd__law_drawn ct__law_drawn : Value} {od__law_drawn an__law_drawn : Option Addr} {sl__law_drawn : Array (Option Value)} (a__law_drawn : PySem.W.nsIn K mainGlobals "_law_drawn" = some (some (.ref f__law_drawn)))
     (l__law_drawn : K.lookup f__law_drawn = some ⟨oc__law_drawn, od__law_drawn, .func (PySem.W.fnOf "_law_drawn" "_law_drawn" (defArgs s__law_drawn) (defBody s__law_drawn) (defScope s__law_drawn) .none kV__law_drawn do__law_drawn pm__law_drawn an__law_drawn cd__law_drawn ct__law_drawn), sl__law_drawn⟩)
     (c__law_drawn : PySem.W.codeIn K cd__law_drawn "_law_drawn" = true)
     (k__law_drawn : PySem.W.keepIn K (.ref f__law_drawn) = true)
    {oc__law_rule kV__law_rule do__law_rule pm__law_rule cd__law_rule ct__law_rule : Value} {od__law_rule an__law_rule : Option Addr} {sl__law_rule : Array (Option Value)} (a__law_rule : PySem.W.nsIn K mainGlobals "_law_rule" = some (some (.ref f__law_rule)))
     (l__law_rule : K.lookup f__law_rule = some ⟨oc__law_rule, od__law_rule, .func (PySem.W.fnOf "_law_rule" "_law_rule" (defArgs s__law_rule) (defBody s__law_rule) (defScope s__law_rule) .none kV__law_rule do__law_rule pm__law_rule an__law_rule cd__law_rule ct__law_rule), sl__law_rule⟩)
     (c__law_rule : PySem.W.codeIn K cd__law_rule "_law_rule" = true)
     (k__law_rule : PySem.W.keepIn K (.ref f__law_rule) = true)
    {oc__law_sort kV__law_sort do__law_sort pm__law_sort cd__law_sort ct__law_sort : Value} {od__law_sort an__law_sort : Option Addr} {sl__law_sort : Array (Option Value)} (a__law_sort : PySem.W.nsIn K mainGlobals "_law_sort" = some (some (.ref f__law_sort)))
     (l__law_sort : K.lookup f__law_sort = some ⟨oc__law_sort, od__law_sort, .func (PySem.W.fnOf "_law_sort" "_law_sort" (defArgs s__law_sort) (defBody s__law_sort) (defScope s__law_sort) .none kV__law_sort do__law_sort pm__law_sort an__law_sort cd__law_sort ct__law_sort), sl__law_sort⟩)
     (c__law_sort : PySem.W.codeIn K cd__law_sort "_law_sort" = true)
     (k__law_sort : PySem.W.keepIn K (.ref f__law_sort) = true)
    {oc__law_painted kV__law_painted do__law_painted pm__law_painted cd__law_painted ct__law_painted : Value} {od__law_painted an__law_painted : Option Addr} {sl__law_painted : Array (Option Value)} (a__law_painted : PySem.W.nsIn K mainGlobals "_law_painted" = some (some (.ref f__law_painted)))
     (l__law_painted : K.lookup f__law_painted = some ⟨oc__law_painted, od__law_painted, .func (PySem.W.fnOf "_law_painted" "_law_painted" (defArgs s__law_painted) (defBody s__law_painted) (defScope s__law_painted) .none kV__law_painted do__law_painted pm__law_painted an__law_painted cd__law_painted ct__law_painted), sl__law_painted⟩)
     (c__law_painted : PySem.W.codeIn K cd__law_painted "_law_painted" = true)
     (k__law_painted : PySem.W.keepIn K (.ref f__law_painted) = true)
    {oc__law_blocks kV__law_blocks do__law_blocks pm__law_blocks cd__law_blocks ct__law_blocks : Value} {od__law_blocks an__law_blocks : Option Addr} {sl__law_blocks : Array (Option Value)} (a__law_blocks : PySem.W.nsIn K mainGlobals "_law_blocks" = some (some (.ref f__law_blocks)))
     (l__law_blocks : K.lookup f__law_blocks = some ⟨oc__law_blocks, od__law_blocks, .func (PySem.W.fnOf "_law_blocks" "_law_blocks" (defArgs s__law_blocks) (defBody s__law_blocks) (defScope s__law_blocks) .none kV__law_blocks do__law_blocks pm__law_blocks an__law_blocks cd__law_blocks ct__law_blocks), sl__law_blocks⟩)
     (c__law_blocks : PySem.W.codeIn K cd__law_blocks "_law_blocks" = true)
     (k__law_blocks : PySem.W.keepIn K (.ref f__law_blocks) = true)
    {oc__law_show kV__law_show do__law_show pm__law_show cd__law_show ct__law_show : Value} {od__law_show an__law_show : Option Addr} {sl__law_show : Array (Option Value)} (a__law_show : PySem.W.nsIn K mainGlobals "_law_show" = some (some (.ref f__law_show)))
     (l__law_show : K.lookup f__law_show = some ⟨oc__law_show, od__law_show, .func (PySem.W.fnOf "_law_show" "_law_show" (defArgs s__law_show) (defBody s__law_show) (defScope s__law_show) .none kV__law_show do__law_show pm__law_show an__law_show cd__law_show ct__law_show), sl__law_show⟩)
     (c__law_show : PySem.W.codeIn K cd__law_show "_law_show" = true)
     (k__law_show : PySem.W.keepIn K (.ref f__law_show) = true)
    {oc__law_looks kV__law_looks do__law_looks pm__law_looks cd__law_looks ct__law_looks : Value} {od__law_looks an__law_looks : Option Addr} {sl__law_looks : Array (Option Value)} (a__law_looks : PySem.W.nsIn K mainGlobals "_law_looks" = some (some (.ref f__law_looks)))
     (l__law_looks : K.lookup f__law_looks = some ⟨oc__law_looks, od__law_looks, .func (PySem.W.fnOf "_law_looks" "_law_looks" (defArgs s__law_looks) (defBody s__law_looks) (defScope s__law_looks) .none kV__law_looks do__law_looks pm__law_looks an__law_looks cd__law_looks ct__law_looks), sl__law_looks⟩)
     (c__law_looks : PySem.W.codeIn K cd__law_looks "_law_looks" = true)
     (k__law_looks : PySem.W.keepIn K (.ref f__law_looks) = true)
    {oc__are_hours kV__are_hours do__are_hours pm__are_hours cd__are_hours ct__are_hours : Value} {od__are_hours an__are_hours : Option Addr} {sl__are_hours : Array (Option Value)} (a__are_hours : PySem.W.nsIn K mainGlobals "_are_hours" = some (some (.ref f__are_hours)))
     (l__are_hours : K.lookup f__are_hours = some ⟨oc__are_hours, od__are_hours, .func (PySem.W.fnOf "_are_hours" "_are_hours" (defArgs s__are_hours) (defBody s__are_hours) (defScope s__are_hours) .none kV__are_hours do__are_hours pm__are_hours an__are_hours cd__are_hours ct__are_hours), sl__are_hours⟩)
     (c__are_hours : PySem.W.codeIn K cd__are_hours "_are_hours" = true)
     (k__are_hours : PySem.W.keepIn K (.ref f__are_hours) = true)
    {oc_wrong_argument_rules kV_wrong_argument_rules do_wrong_argument_rules pm_wrong_argument_rules cd_wrong_argument_rules ct_wrong_argument_rules : Value} {od_wrong_argument_rules an_wrong_argument_rules : Option Addr} {sl_wrong_argument_rules : Array (Option Value)} (a_wrong_argument_rules : PySem.W.nsIn K mainGlobals "wrong_argument_rules" = some (some (.ref f_wrong_argument_rules)))
     (l_wrong_argument_rules : K.lookup f_wrong_argument_rules = some ⟨oc_wrong_argument_rules, od_wrong_argument_rules, .func (PySem.W.fnOf "_wrong_argument" "_wrong_argument" (defArgs s_wrong_argument_rules) (defBody s_wrong_argument_rules) (defScope s_wrong_argument_rules) .none kV_wrong_argument_rules do_wrong_argument_rules pm_wrong_argument_rules an_wrong_argument_rules cd_wrong_argument_rules ct_wrong_argument_rules), sl_wrong_argument_rules⟩)
     (c_wrong_argument_rules : PySem.W.codeIn K cd_wrong_argument_rules "_wrong_argument" = true)
     (k_wrong_argument_rules : PySem.W.keepIn K (.ref f_wrong_argument_rules) = true)
    {oc__law_rule_of kV__law_rule_of do__law_rule_of pm__law_rule_of cd__law_rule_of ct__law_rule_of : Value} {od__law_rule_of an__law_rule_of : Option Addr} {sl__law_rule_of : Array (Option Value)} (a__law_rule_of : PySem.W.nsIn K mainGlobals "_law_rule_of" = some (some (.ref f__law_rule_of)))
     (l__law_rule_of : K.lookup f__law_rule_of = some ⟨oc__law_rule_of, od__law_rule_of, .func (PySem.W.fnOf "_law_rule_of" "_law_rule_of" (defArgs s__law_rule_of) (defBody s__law_rule_of) (defScope s__law_rule_of) .none kV__law_rule_of do__law_rule_of pm__law_rule_of an__law_rule_of cd__law_rule_of ct__law_rule_of), sl__law_rule_of⟩)
     (c__law_rule_of : PySem.W.codeIn K cd__law_rule_of "_law_rule_of" = true)
     (k__law_rule_of : PySem.W.keepIn K (.ref f__law_rule_of) = true)
    {oc__law_looks_of kV__law_looks_of do__law_looks_of pm__law_looks_of cd__law_looks_of ct__law_looks_of : Value} {od__law_looks_of an__law_looks_of : Option Addr} {sl__law_looks_of : Array (Option Value)} (a__law_looks_of : PySem.W.nsIn K mainGlobals "_law_looks_of" = some (some (.ref f__law_looks_of)))
     (l__law_looks_of : K.lookup f__law_looks_of = some ⟨oc__law_looks_of, od__law_looks_of, .func (PySem.W.fnOf "_law_looks_of" "_law_looks_of" (defArgs s__law_looks_of) (defBody s__law_looks_of) (defScope s__law_looks_of) .none kV__law_looks_of do__law_looks_of pm__law_looks_of an__law_looks_of cd__law_looks_of ct__law_looks_of), sl__law_looks_of⟩)
     (c__law_looks_of : PySem.W.codeIn K cd__law_looks_of "_law_looks_of" = true)
     (k__law_looks_of : PySem.W.keepIn K (.ref f__law_looks_of) = true)
    {oc__law_is_row kV__law_is_row do__law_is_row pm__law_is_row cd__law_is_row ct__law_is_row : Value} {od__law_is_row an__law_is_row : Option Addr} {sl__law_is_row : Array (Option Value)} (a__law_is_row : PySem.W.nsIn K mainGlobals "_law_is_row" = some (some (.ref f__law_is_row)))
     (l__law_is_row : K.lookup f__law_is_row = some ⟨oc__law_is_row, od__law_is_row, .func (PySem.W.fnOf "_law_is_row" "_law_is_row" (defArgs s__law_is_row) (defBody s__law_is_row) (defScope s__law_is_row) .none kV__law_is_row do__law_is_row pm__law_is_row an__law_is_row cd__law_is_row ct__law_is_row), sl__law_is_row⟩)
     (c__law_is_row : PySem.W.codeIn K cd__law_is_row "_law_is_row" = true)
     (k__law_is_row : PySem.W.keepIn K (.ref f__law_is_row) = true)
    {oc__law_runs kV__law_runs do__law_runs pm__law_runs cd__law_runs ct__law_runs : Value} {od__law_runs an__law_runs : Option Addr} {sl__law_runs : Array (Option Value)} (a__law_runs : PySem.W.nsIn K mainGlobals "_law_runs" = some (some (.ref f__law_runs)))
     (l__law_runs : K.lookup f__law_runs = some ⟨oc__law_runs, od__law_runs, .func (PySem.W.fnOf "_law_runs" "_law_runs" (defArgs s__law_runs) (defBody s__law_runs) (defScope s__law_runs) .none kV__law_runs do__law_runs pm__law_runs an__law_runs cd__law_runs ct__law_runs), sl__law_runs⟩)
     (c__law_runs : PySem.W.codeIn K cd__law_runs "_law_runs" = true)
     (k__law_runs : PySem.W.keepIn K (.ref f__law_runs) = true)
    {oc__law_part kV__law_part do__law_part pm__law_part cd__law_part ct__law_part : Value} {od__law_part an__law_part : Option Addr} {sl__law_part : Array (Option Value)} (a__law_part : PySem.W.nsIn K mainGlobals "_law_part" = some (some (.ref f__law_part)))
     (l__law_part : K.lookup f__law_part = some ⟨oc__law_part, od__law_part, .func (PySem.W.fnOf "_law_part" "_law_part" (defArgs s__law_part) (defBody s__law_part) (defScope s__law_part) .none kV__law_part do__law_part pm__law_part an__law_part cd__law_part ct__law_part), sl__law_part⟩)
     (c__law_part : PySem.W.codeIn K cd__law_part "_law_part" = true)
     (k__law_part : PySem.W.keepIn K (.ref f__law_part) = true)
    {oc__law_read kV__law_read do__law_read pm__law_read cd__law_read ct__law_read : Value} {od__law_read an__law_read : Option Addr} {sl__law_read : Array (Option Value)} (a__law_read : PySem.W.nsIn K mainGlobals "_law_read" = some (some (.ref f__law_read)))
     (l__law_read : K.lookup f__law_read = some ⟨oc__law_read, od__law_read, .func (PySem.W.fnOf "_law_read" "_law_read" (defArgs s__law_read) (defBody s__law_read) (defScope s__law_read) .none kV__law_read do__law_read pm__law_read an__law_read cd__law_read ct__law_read), sl__law_read⟩)
     (c__law_read : PySem.W.codeIn K cd__law_read "_law_read" = true)
     (k__law_read : PySem.W.keepIn K (.ref f__law_read) = true)
    {oc__law_standing kV__law_standing do__law_standing pm__law_standing cd__law_standing ct__law_standing : Value} {od__law_standing an__law_standing : Option Addr} {sl__law_standing : Array (Option Value)} (a__law_standing : PySem.W.nsIn K mainGlobals "_law_standing" = some (some (.ref f__law_standing)))
     (l__law_standing : K.lookup f__law_standing = some ⟨oc__law_standing, od__law_standing, .func (PySem.W.fnOf "_law_standing" "_law_standing" (defArgs s__law_standing) (defBody s__law_standing) (defScope s__law_standing) .none kV__law_standing do__law_standing pm__law_standing an__law_standing cd__law_standing ct__law_standing), sl__law_standing⟩)
     (c__law_standing : PySem.W.codeIn K cd__law_standing "_law_standing" = true)
     (k__law_standing : PySem.W.keepIn K (.ref f__law_standing) = true)
    {oc__is_block kV__is_block do__is_block pm__is_block cd__is_block ct__is_block : Value} {od__is_block an__is_block : Option Addr} {sl__is_block : Array (Option Value)} (a__is_block : PySem.W.nsIn K mainGlobals "_is_block" = some (some (.ref f__is_block)))
     (l__is_block : K.lookup f__is_block = some ⟨oc__is_block, od__is_block, .func (PySem.W.fnOf "_is_block" "_is_block" (defArgs s__is_block) (defBody s__is_block) (defScope s__is_block) .none kV__is_block do__is_block pm__is_block an__is_block cd__is_block ct__is_block), sl__is_block⟩)
     (c__is_block : PySem.W.codeIn K cd__is_block "_is_block" = true)
     (k__is_block : PySem.W.keepIn K (.ref f__is_block) = true)
    {oc_is_view kV_is_view do_is_view pm_is_view cd_is_view ct_is_view : Value} {od_is_view an_is_view : Option Addr} {sl_is_view : Array (Option Value)} (a_is_view : PySem.W.nsIn K mainGlobals "is_view" = some (some (.ref f_is_view)))
     (l_is_view : K.lookup f_is_view = some ⟨oc_is_view, od_is_view, .func (PySem.W.fnOf "is_view" "is_view" (defArgs s_is_view) (defBody s_is_view) (defScope s_is_view) .none kV_is_view do_is_view pm_is_view an_is_view cd_is_view ct_is_view), sl_is_view⟩)
     (c_is_view : PySem.W.codeIn K cd_is_view "is_view" = true)
     (k_is_view : PySem.W.keepIn K (.ref f_is_view) = true)
    {oc_is_look kV_is_look do_is_look pm_is_look cd_is_look ct_is_look : Value} {od_is_look an_is_look : Option Addr} {sl_is_look : Array (Option Value)} (a_is_look : PySem.W.nsIn K mainGlobals "is_look" = some (some (.ref f_is_look)))
     (l_is_look : K.lookup f_is_look = some ⟨oc_is_look, od_is_look, .func (PySem.W.fnOf "is_look" "is_look" (defArgs s_is_look) (defBody s_is_look) (defScope s_is_look) .none kV_is_look do_is_look pm_is_look an_is_look cd_is_look ct_is_look), sl_is_look⟩)
     (c_is_look : PySem.W.codeIn K cd_is_look "is_look" = true)
     (k_is_look : PySem.W.keepIn K (.ref f_is_look) = true)
    {oc_check_looks kV_check_looks do_check_looks pm_check_looks cd_check_looks ct_check_looks : Value} {od_check_looks an_check_looks : Option Addr} {sl_check_looks : Array (Option Value)} (a_check_looks : PySem.W.nsIn K mainGlobals "check_looks" = some (some (.ref f_check_looks)))
     (l_check_looks : K.lookup f_check_looks = some ⟨oc_check_looks, od_check_looks, .func (PySem.W.fnOf "check_looks" "check_looks" (defArgs s_check_looks) (defBody s_check_looks) (defScope s_check_looks) .none kV_check_looks do_check_looks pm_check_looks an_check_looks cd_check_looks ct_check_looks), sl_check_looks⟩)
     (c_check_looks : PySem.W.codeIn K cd_check_looks "check_looks" = true)
     (k_check_looks : PySem.W.keepIn K (.ref f_check_looks) = true)
    {oc_is_let kV_is_let do_is_let pm_is_let cd_is_let ct_is_let : Value} {od_is_let an_is_let : Option Addr} {sl_is_let : Array (Option Value)} (a_is_let : PySem.W.nsIn K mainGlobals "is_let" = some (some (.ref f_is_let)))
     (l_is_let : K.lookup f_is_let = some ⟨oc_is_let, od_is_let, .func (PySem.W.fnOf "is_let" "is_let" (defArgs s_is_let) (defBody s_is_let) (defScope s_is_let) .none kV_is_let do_is_let pm_is_let an_is_let cd_is_let ct_is_let), sl_is_let⟩)
     (c_is_let : PySem.W.codeIn K cd_is_let "is_let" = true)
     (k_is_let : PySem.W.keepIn K (.ref f_is_let) = true)
    {oc_word_shown kV_word_shown do_word_shown pm_word_shown cd_word_shown ct_word_shown : Value} {od_word_shown an_word_shown : Option Addr} {sl_word_shown : Array (Option Value)} (a_word_shown : PySem.W.nsIn K mainGlobals "word_shown" = some (some (.ref f_word_shown)))
     (l_word_shown : K.lookup f_word_shown = some ⟨oc_word_shown, od_word_shown, .func (PySem.W.fnOf "word_shown" "word_shown" (defArgs s_word_shown) (defBody s_word_shown) (defScope s_word_shown) .none kV_word_shown do_word_shown pm_word_shown an_word_shown cd_word_shown ct_word_shown), sl_word_shown⟩)
     (c_word_shown : PySem.W.codeIn K cd_word_shown "word_shown" = true)
     (k_word_shown : PySem.W.keepIn K (.ref f_word_shown) = true)
    {oc_make_makers kV_make_makers do_make_makers pm_make_makers cd_make_makers ct_make_makers : Value} {od_make_makers an_make_makers : Option Addr} {sl_make_makers : Array (Option Value)} (a_make_makers : PySem.W.nsIn K mainGlobals "make_makers" = some (some (.ref f_make_makers)))
     (l_make_makers : K.lookup f_make_makers = some ⟨oc_make_makers, od_make_makers, .func (PySem.W.fnOf "make_makers" "make_makers" (defArgs s_make_makers) (defBody s_make_makers) (defScope s_make_makers) .none kV_make_makers do_make_makers pm_make_makers an_make_makers cd_make_makers ct_make_makers), sl_make_makers⟩)
     (c_make_makers : PySem.W.codeIn K cd_make_makers "make_makers" = true)
     (k_make_makers : PySem.W.keepIn K (.ref f_make_makers) = true)
    {oc__begun_head kV__begun_head do__begun_head pm__begun_head cd__begun_head ct__begun_head : Value} {od__begun_head an__begun_head : Option Addr} {sl__begun_head : Array (Option Value)} (a__begun_head : PySem.W.nsIn K mainGlobals "_begun_head" = some (some (.ref f__begun_head)))
     (l__begun_head : K.lookup f__begun_head = some ⟨oc__begun_head, od__begun_head, .func (PySem.W.fnOf "_begun_head" "_begun_head" (defArgs s__begun_head) (defBody s__begun_head) (defScope s__begun_head) .none kV__begun_head do__begun_head pm__begun_head an__begun_head cd__begun_head ct__begun_head), sl__begun_head⟩)
     (c__begun_head : PySem.W.codeIn K cd__begun_head "_begun_head" = true)
     (k__begun_head : PySem.W.keepIn K (.ref f__begun_head) = true)
    {oc_is_long_enough kV_is_long_enough do_is_long_enough pm_is_long_enough cd_is_long_enough ct_is_long_enough : Value} {od_is_long_enough an_is_long_enough : Option Addr} {sl_is_long_enough : Array (Option Value)} (a_is_long_enough : PySem.W.nsIn K mainGlobals "is_long_enough" = some (some (.ref f_is_long_enough)))
     (l_is_long_enough : K.lookup f_is_long_enough = some ⟨oc_is_long_enough, od_is_long_enough, .func (PySem.W.fnOf "is_long_enough" "is_long_enough" (defArgs s_is_long_enough) (defBody s_is_long_enough) (defScope s_is_long_enough) .none kV_is_long_enough do_is_long_enough pm_is_long_enough an_is_long_enough cd_is_long_enough ct_is_long_enough), sl_is_long_enough⟩)
     (c_is_long_enough : PySem.W.codeIn K cd_is_long_enough "is_long_enough" = true)
     (k_is_long_enough : PySem.W.keepIn K (.ref f_is_long_enough) = true)
    {oc_next_head kV_next_head do_next_head pm_next_head cd_next_head ct_next_head : Value} {od_next_head an_next_head : Option Addr} {sl_next_head : Array (Option Value)} (a_next_head : PySem.W.nsIn K mainGlobals "next_head" = some (some (.ref f_next_head)))
     (l_next_head : K.lookup f_next_head = some ⟨oc_next_head, od_next_head, .func (PySem.W.fnOf "next_head" "next_head" (defArgs s_next_head) (defBody s_next_head) (defScope s_next_head) .none kV_next_head do_next_head pm_next_head an_next_head cd_next_head ct_next_head), sl_next_head⟩)
     (c_next_head : PySem.W.codeIn K cd_next_head "next_head" = true)
     (k_next_head : PySem.W.keepIn K (.ref f_next_head) = true)
    {oc_put_up kV_put_up do_put_up pm_put_up cd_put_up ct_put_up : Value} {od_put_up an_put_up : Option Addr} {sl_put_up : Array (Option Value)} (a_put_up : PySem.W.nsIn K mainGlobals "put_up" = some (some (.ref f_put_up)))
     (l_put_up : K.lookup f_put_up = some ⟨oc_put_up, od_put_up, .func (PySem.W.fnOf "put_up" "put_up" (defArgs s_put_up) (defBody s_put_up) (defScope s_put_up) .none kV_put_up do_put_up pm_put_up an_put_up cd_put_up ct_put_up), sl_put_up⟩)
     (c_put_up : PySem.W.codeIn K cd_put_up "put_up" = true)
     (k_put_up : PySem.W.keepIn K (.ref f_put_up) = true)
    {oc_span_shown kV_span_shown do_span_shown pm_span_shown cd_span_shown ct_span_shown : Value} {od_span_shown an_span_shown : Option Addr} {sl_span_shown : Array (Option Value)} (a_span_shown : PySem.W.nsIn K mainGlobals "span_shown" = some (some (.ref f_span_shown)))
     (l_span_shown : K.lookup f_span_shown = some ⟨oc_span_shown, od_span_shown, .func (PySem.W.fnOf "span_shown" "span_shown" (defArgs s_span_shown) (defBody s_span_shown) (defScope s_span_shown) .none kV_span_shown do_span_shown pm_span_shown an_span_shown cd_span_shown ct_span_shown), sl_span_shown⟩)
     (c_span_shown : PySem.W.codeIn K cd_span_shown "span_shown" = true)
     (k_span_shown : PySem.W.keepIn K (.ref f_span_shown) = true)
    {oc_is_joined kV_is_joined do_is_joined pm_is_joined cd_is_joined ct_is_joined : Value} {od_is_joined an_is_joined : Option Addr} {sl_is_joined : Array (Option Value)} (a_is_joined : PySem.W.nsIn K mainGlobals "is_joined" = some (some (.ref f_is_joined)))
     (l_is_joined : K.lookup f_is_joined = some ⟨oc_is_joined, od_is_joined, .func (PySem.W.fnOf "is_joined" "is_joined" (defArgs s_is_joined) (defBody s_is_joined) (defScope s_is_joined) .none kV_is_joined do_is_joined pm_is_joined an_is_joined cd_is_joined ct_is_joined), sl_is_joined⟩)
     (c_is_joined : PySem.W.codeIn K cd_is_joined "is_joined" = true)
     (k_is_joined : PySem.W.keepIn K (.ref f_is_joined) = true)
    {oc_put_down kV_put_down do_put_down pm_put_down cd_put_down ct_put_down : Value} {od_put_down an_put_down : Option Addr} {sl_put_down : Array (Option Value)} (a_put_down : PySem.W.nsIn K mainGlobals "put_down" = some (some (.ref f_put_down)))
     (l_put_down : K.lookup f_put_down = some ⟨oc_put_down, od_put_down, .func (PySem.W.fnOf "put_down" "put_down" (defArgs s_put_down) (defBody s_put_down) (defScope s_put_down) .none kV_put_down do_put_down pm_put_down an_put_down cd_put_down ct_put_down), sl_put_down⟩)
     (c_put_down : PySem.W.codeIn K cd_put_down "put_down" = true)
     (k_put_down : PySem.W.keepIn K (.ref f_put_down) = true)
    {oc__next_tally kV__next_tally do__next_tally pm__next_tally cd__next_tally ct__next_tally : Value} {od__next_tally an__next_tally : Option Addr} {sl__next_tally : Array (Option Value)} (a__next_tally : PySem.W.nsIn K mainGlobals "_next_tally" = some (some (.ref f__next_tally)))
     (l__next_tally : K.lookup f__next_tally = some ⟨oc__next_tally, od__next_tally, .func (PySem.W.fnOf "_next_tally" "_next_tally" (defArgs s__next_tally) (defBody s__next_tally) (defScope s__next_tally) .none kV__next_tally do__next_tally pm__next_tally an__next_tally cd__next_tally ct__next_tally), sl__next_tally⟩)
     (c__next_tally : PySem.W.codeIn K cd__next_tally "_next_tally" = true)
     (k__next_tally : PySem.W.keepIn K (.ref f__next_tally) = true)
    {oc__next_pair kV__next_pair do__next_pair pm__next_pair cd__next_pair ct__next_pair : Value} {od__next_pair an__next_pair : Option Addr} {sl__next_pair : Array (Option Value)} (a__next_pair : PySem.W.nsIn K mainGlobals "_next_pair" = some (some (.ref f__next_pair)))
     (l__next_pair : K.lookup f__next_pair = some ⟨oc__next_pair, od__next_pair, .func (PySem.W.fnOf "_next_pair" "_next_pair" (defArgs s__next_pair) (defBody s__next_pair) (defScope s__next_pair) .none kV__next_pair do__next_pair pm__next_pair an__next_pair cd__next_pair ct__next_pair), sl__next_pair⟩)
     (c__next_pair : PySem.W.codeIn K cd__next_pair "_next_pair" = true)
     (k__next_pair : PySem.W.keepIn K (.ref f__next_pair) = true)
    {oc_next_making kV_next_making do_next_making pm_next_making cd_next_making ct_next_making : Value} {od_next_making an_next_making : Option Addr} {sl_next_making : Array (Option Value)} (a_next_making : PySem.W.nsIn K mainGlobals "next_making" = some (some (.ref f_next_making)))
     (l_next_making : K.lookup f_next_making = some ⟨oc_next_making, od_next_making, .func (PySem.W.fnOf "next_making" "next_making" (defArgs s_next_making) (defBody s_next_making) (defScope s_next_making) .none kV_next_making do_next_making pm_next_making an_next_making cd_next_making ct_next_making), sl_next_making⟩)
     (c_next_making : PySem.W.codeIn K cd_next_making "next_making" = true)
     (k_next_making : PySem.W.keepIn K (.ref f_next_making) = true)
    {oc_next_standing kV_next_standing do_next_standing pm_next_standing cd_next_standing ct_next_standing : Value} {od_next_standing an_next_standing : Option Addr} {sl_next_standing : Array (Option Value)} (a_next_standing : PySem.W.nsIn K mainGlobals "next_standing" = some (some (.ref f_next_standing)))
     (l_next_standing : K.lookup f_next_standing = some ⟨oc_next_standing, od_next_standing, .func (PySem.W.fnOf "next_standing" "next_standing" (defArgs s_next_standing) (defBody s_next_standing) (defScope s_next_standing) .none kV_next_standing do_next_standing pm_next_standing an_next_standing cd_next_standing ct_next_standing), sl_next_standing⟩)
     (c_next_standing : PySem.W.codeIn K cd_next_standing "next_standing" = true)
     (k_next_standing : PySem.W.keepIn K (.ref f_next_standing) = true)
    {oc_after kV_after do_after pm_after cd_after ct_after : Value} {od_after an_after : Option Addr} {sl_after : Array (Option Value)} (a_after : PySem.W.nsIn K mainGlobals "after" = some (some (.ref f_after)))
     (l_after : K.lookup f_after = some ⟨oc_after, od_after, .func (PySem.W.fnOf "after" "after" (defArgs s_after) (defBody s_after) (defScope s_after) .none kV_after do_after pm_after an_after cd_after ct_after), sl_after⟩)
     (c_after : PySem.W.codeIn K cd_after "after" = true)
     (k_after : PySem.W.keepIn K (.ref f_after) = true)
    {oc_first_standing kV_first_standing do_first_standing pm_first_standing cd_first_standing ct_first_standing : Value} {od_first_standing an_first_standing : Option Addr} {sl_first_standing : Array (Option Value)} (a_first_standing : PySem.W.nsIn K mainGlobals "first_standing" = some (some (.ref f_first_standing)))
     (l_first_standing : K.lookup f_first_standing = some ⟨oc_first_standing, od_first_standing, .func (PySem.W.fnOf "first_standing" "first_standing" (defArgs s_first_standing) (defBody s_first_standing) (defScope s_first_standing) .none kV_first_standing do_first_standing pm_first_standing an_first_standing cd_first_standing ct_first_standing), sl_first_standing⟩)
     (c_first_standing : PySem.W.codeIn K cd_first_standing "first_standing" = true)
     (k_first_standing : PySem.W.keepIn K (.ref f_first_standing) = true)
    {oc_begun kV_begun do_begun pm_begun cd_begun ct_begun : Value} {od_begun an_begun : Option Addr} {sl_begun : Array (Option Value)} (a_begun : PySem.W.nsIn K mainGlobals "begun" = some (some (.ref f_begun)))
     (l_begun : K.lookup f_begun = some ⟨oc_begun, od_begun, .func (PySem.W.fnOf "begun" "begun" (defArgs s_begun) (defBody s_begun) (defScope s_begun) .none kV_begun do_begun pm_begun an_begun cd_begun ct_begun), sl_begun⟩)
     (c_begun : PySem.W.codeIn K cd_begun "begun" = true)
     (k_begun : PySem.W.keepIn K (.ref f_begun) = true)
    {oc_law kV_law do_law pm_law cd_law ct_law : Value} {od_law an_law : Option Addr} {sl_law : Array (Option Value)} (a_law : PySem.W.nsIn K mainGlobals "law" = some (some (.ref f_law)))
     (l_law : K.lookup f_law = some ⟨oc_law, od_law, .func (PySem.W.fnOf "law" "law" (defArgs s_law) (defBody s_law) (defScope s_law) .none kV_law do_law pm_law an_law cd_law ct_law), sl_law⟩)
     (c_law : PySem.W.codeIn K cd_law "law" = true)
     (k_law : PySem.W.keepIn K (.ref f_law) = true)
    {oc_Rule___init__ kV_Rule___init__ do_Rule___init__ pm_Rule___init__ cd_Rule___init__ ct_Rule___init__ : Value} {od_Rule___init__ an_Rule___init__ : Option Addr} {sl_Rule___init__ : Array (Option Value)} (a_Rule___init__ : PySem.W.findIn K (.ref C_Rule) "__init__" = some (some (.ref f_Rule___init__)))
     (i_Rule___init__ : PySem.W.isFn K (.ref f_Rule___init__) = true)
    {T_Rule___init__ : Addr} (l_Rule___init__ : K.lookup f_Rule___init__ = some ⟨oc_Rule___init__, od_Rule___init__, .func (PySem.W.fnOf "__init__" "Rule.__init__" (defArgs s_Rule___init__) (defBody s_Rule___init__) (defScope s_Rule___init__) (.ref T_Rule___init__) kV_Rule___init__ do_Rule___init__ pm_Rule___init__ an_Rule___init__ cd_Rule___init__ ct_Rule___init__), sl_Rule___init__⟩)
    {tc_Rule___init__ : Value} {td_Rule___init__ : Option Addr} {it_Rule___init__ : Array Value} {tn_Rule___init__ : Nat} {ts_Rule___init__ : Array (Option Value)} (lt_Rule___init__ : K.lookup T_Rule___init__ = some ⟨tc_Rule___init__, td_Rule___init__, .seq it_Rule___init__ tn_Rule___init__, ts_Rule___init__⟩)
     (lv_Rule___init__ : it_Rule___init__.toList.mapM absV = some [V.int 1, V.int 0, V.int 0, V.str "busy", V.non])
     (c_Rule___init__ : PySem.W.codeIn K cd_Rule___init__ "Rule.__init__" = true)
     (k_Rule___init__ : PySem.W.keepIn K (.ref f_Rule___init__) = true)
    {oc_Frame___init__ kV_Frame___init__ do_Frame___init__ pm_Frame___init__ cd_Frame___init__ ct_Frame___init__ : Value} {od_Frame___init__ an_Frame___init__ : Option Addr} {sl_Frame___init__ : Array (Option Value)} (a_Frame___init__ : PySem.W.findIn K (.ref C_Frame) "__init__" = some (some (.ref f_Frame___init__)))
     (i_Frame___init__ : PySem.W.isFn K (.ref f_Frame___init__) = true)
    {T_Frame___init__ : Addr} (l_Frame___init__ : K.lookup f_Frame___init__ = some ⟨oc_Frame___init__, od_Frame___init__, .func (PySem.W.fnOf "__init__" "Frame.__init__" (defArgs s_Frame___init__) (defBody s_Frame___init__) (defScope s_Frame___init__) (.ref T_Frame___init__) kV_Frame___init__ do_Frame___init__ pm_Frame___init__ an_Frame___init__ cd_Frame___init__ ct_Frame___init__), sl_Frame___init__⟩)
    {tc_Frame___init__ : Value} {td_Frame___init__ : Option Addr} {it_Frame___init__ : Array Value} {tn_Frame___init__ : Nat} {ts_Frame___init__ : Array (Option Value)} (lt_Frame___init__ : K.lookup T_Frame___init__ = some ⟨tc_Frame___init__, td_Frame___init__, .seq it_Frame___init__ tn_Frame___init__, ts_Frame___init__⟩)
    {z_Frame : Addr} (lv_Frame___init__ : it_Frame___init__.toList.mapM absV = some [V.int 1, V.non, V.bl false, V.ref z_Frame])
    {td_zFrame : Option Addr} {it_zFrame : Array Value} {tn_zFrame : Nat} {ts_zFrame : Array (Option Value)} (l_zFrame : K.lookup z_Frame = some ⟨.type "tuple", td_zFrame, .seq it_zFrame tn_zFrame, ts_zFrame⟩)
     (lv_zFrame : it_zFrame.toList.mapM absV = some [])
     (c_Frame___init__ : PySem.W.codeIn K cd_Frame___init__ "Frame.__init__" = true)
     (k_Frame___init__ : PySem.W.keepIn K (.ref f_Frame___init__) = true)
    {oc_Maker___init__ kV_Maker___init__ do_Maker___init__ pm_Maker___init__ cd_Maker___init__ ct_Maker___init__ : Value} {od_Maker___init__ an_Maker___init__ : Option Addr} {sl_Maker___init__ : Array (Option Value)} (a_Maker___init__ : PySem.W.findIn K (.ref C_Maker) "__init__" = some (some (.ref f_Maker___init__)))
     (i_Maker___init__ : PySem.W.isFn K (.ref f_Maker___init__) = true)
     (l_Maker___init__ : K.lookup f_Maker___init__ = some ⟨oc_Maker___init__, od_Maker___init__, .func (PySem.W.fnOf "__init__" "Maker.__init__" (defArgs s_Maker___init__) (defBody s_Maker___init__) (defScope s_Maker___init__) .none kV_Maker___init__ do_Maker___init__ pm_Maker___init__ an_Maker___init__ cd_Maker___init__ ct_Maker___init__), sl_Maker___init__⟩)
     (c_Maker___init__ : PySem.W.codeIn K cd_Maker___init__ "Maker.__init__" = true)
     (k_Maker___init__ : PySem.W.keepIn K (.ref f_Maker___init__) = true)
    {oc_Maker_takes kV_Maker_takes do_Maker_takes pm_Maker_takes cd_Maker_takes ct_Maker_takes : Value} {od_Maker_takes an_Maker_takes : Option Addr} {sl_Maker_takes : Array (Option Value)} (a_Maker_takes : PySem.W.findIn K (.ref C_Maker) "takes" = some (some (.ref f_Maker_takes)))
     (i_Maker_takes : PySem.W.isFn K (.ref f_Maker_takes) = true)
     (l_Maker_takes : K.lookup f_Maker_takes = some ⟨oc_Maker_takes, od_Maker_takes, .func (PySem.W.fnOf "takes" "Maker.takes" (defArgs s_Maker_takes) (defBody s_Maker_takes) (defScope s_Maker_takes) .none kV_Maker_takes do_Maker_takes pm_Maker_takes an_Maker_takes cd_Maker_takes ct_Maker_takes), sl_Maker_takes⟩)
     (c_Maker_takes : PySem.W.codeIn K cd_Maker_takes "Maker.takes" = true)
     (k_Maker_takes : PySem.W.keepIn K (.ref f_Maker_takes) = true)
    {oc_Maker_gone_on kV_Maker_gone_on do_Maker_gone_on pm_Maker_gone_on cd_Maker_gone_on ct_Maker_gone_on : Value} {od_Maker_gone_on an_Maker_gone_on : Option Addr} {sl_Maker_gone_on : Array (Option Value)} (a_Maker_gone_on : PySem.W.findIn K (.ref C_Maker) "gone_on" = some (some (.ref f_Maker_gone_on)))
     (i_Maker_gone_on : PySem.W.isFn K (.ref f_Maker_gone_on) = true)
     (l_Maker_gone_on : K.lookup f_Maker_gone_on = some ⟨oc_Maker_gone_on, od_Maker_gone_on, .func (PySem.W.fnOf "gone_on" "Maker.gone_on" (defArgs s_Maker_gone_on) (defBody s_Maker_gone_on) (defScope s_Maker_gone_on) .none kV_Maker_gone_on do_Maker_gone_on pm_Maker_gone_on an_Maker_gone_on cd_Maker_gone_on ct_Maker_gone_on), sl_Maker_gone_on⟩)
     (c_Maker_gone_on : PySem.W.codeIn K cd_Maker_gone_on "Maker.gone_on" = true)
     (k_Maker_gone_on : PySem.W.keepIn K (.ref f_Maker_gone_on) = true)
    {oc_Maker_laid kV_Maker_laid do_Maker_laid pm_Maker_laid cd_Maker_laid ct_Maker_laid : Value} {od_Maker_laid an_Maker_laid : Option Addr} {sl_Maker_laid : Array (Option Value)} (a_Maker_laid : PySem.W.findIn K (.ref C_Maker) "laid" = some (some (.ref f_Maker_laid)))
     (i_Maker_laid : PySem.W.isFn K (.ref f_Maker_laid) = true)
     (l_Maker_laid : K.lookup f_Maker_laid = some ⟨oc_Maker_laid, od_Maker_laid, .func (PySem.W.fnOf "laid" "Maker.laid" (defArgs s_Maker_laid) (defBody s_Maker_laid) (defScope s_Maker_laid) .none kV_Maker_laid do_Maker_laid pm_Maker_laid an_Maker_laid cd_Maker_laid ct_Maker_laid), sl_Maker_laid⟩)
     (c_Maker_laid : PySem.W.codeIn K cd_Maker_laid "Maker.laid" = true)
     (k_Maker_laid : PySem.W.keepIn K (.ref f_Maker_laid) = true)
    {oc_Maker_started kV_Maker_started do_Maker_started pm_Maker_started cd_Maker_started ct_Maker_started : Value} {od_Maker_started an_Maker_started : Option Addr} {sl_Maker_started : Array (Option Value)} (a_Maker_started : PySem.W.findIn K (.ref C_Maker) "started" = some (some (.ref f_Maker_started)))
     (i_Maker_started : PySem.W.isFn K (.ref f_Maker_started) = true)
     (l_Maker_started : K.lookup f_Maker_started = some ⟨oc_Maker_started, od_Maker_started, .func (PySem.W.fnOf "started" "Maker.started" (defArgs s_Maker_started) (defBody s_Maker_started) (defScope s_Maker_started) .none kV_Maker_started do_Maker_started pm_Maker_started an_Maker_started cd_Maker_started ct_Maker_started), sl_Maker_started⟩)
     (c_Maker_started : PySem.W.codeIn K cd_Maker_started "Maker.started" = true)
     (k_Maker_started : PySem.W.keepIn K (.ref f_Maker_started) = true)
     (pg_Rule : PySem.W.plainGet K C_Rule Str.empty = true)
     (hd_Rule : PySem.W.hasDictIn K C_Rule = true)
     (po_Rule : PySem.W.plainOver K C_Rule = true)
     (sa_Rule : PySem.W.findIn K (.ref C_Rule) "__setattr__" = some (some (.builtin "object.__setattr__")))
     (mk_Rule : PySem.W.makesIn K C_Rule = true)
     (kc_Rule : PySem.W.keepIn K (.ref C_Rule) = true)
     (na_Rule_length : PySem.W.findIn K (.ref C_Rule) "length" = some none)
     (na_Rule_private : PySem.W.findIn K (.ref C_Rule) "private" = some none)
     (na_Rule_step : PySem.W.findIn K (.ref C_Rule) "step" = some none)
     (na_Rule_gap : PySem.W.findIn K (.ref C_Rule) "gap" = some none)
     (na_Rule_least : PySem.W.findIn K (.ref C_Rule) "least" = some none)
     (na_Rule_hours : PySem.W.findIn K (.ref C_Rule) "hours" = some none)
     (isc_Rule : PySem.W.isClsIn K C_Rule = true)
     (tyc_Rule : PySem.W.typeIn K (.ref C_Rule) = some (.type "type"))
     (su_Rule : PySem.W.subIn K (.type "str") (.ref C_Rule) = some false)
     (sb_Rule_int : PySem.W.subIn K (.ref C_Rule) (.type "int") = some false)
     (sb_Rule_bool : PySem.W.subIn K (.ref C_Rule) (.type "bool") = some false)
     (sb_Rule_str : PySem.W.subIn K (.ref C_Rule) (.type "str") = some false)
     (sb_Rule_tuple : PySem.W.subIn K (.ref C_Rule) (.type "tuple") = some false)
     (sb_Rule_list : PySem.W.subIn K (.ref C_Rule) (.type "list") = some false)
     (o_Rule : PySem.W.mroIn K C_Rule (.type "object") = some true)
     (ic_Rule : PySem.W.findIn K (.ref C_Rule) "__class__" = some (some (.builtin "object.__class__")))
     (pg_Frame : PySem.W.plainGet K C_Frame Str.empty = true)
     (hd_Frame : PySem.W.hasDictIn K C_Frame = true)
     (po_Frame : PySem.W.plainOver K C_Frame = true)
     (sa_Frame : PySem.W.findIn K (.ref C_Frame) "__setattr__" = some (some (.builtin "object.__setattr__")))
     (mk_Frame : PySem.W.makesIn K C_Frame = true)
     (kc_Frame : PySem.W.keepIn K (.ref C_Frame) = true)
     (na_Frame_length : PySem.W.findIn K (.ref C_Frame) "length" = some none)
     (na_Frame_shortest : PySem.W.findIn K (.ref C_Frame) "shortest" = some none)
     (na_Frame_most : PySem.W.findIn K (.ref C_Frame) "most" = some none)
     (na_Frame_private : PySem.W.findIn K (.ref C_Frame) "private" = some none)
     (na_Frame_known : PySem.W.findIn K (.ref C_Frame) "known" = some none)
     (isc_Frame : PySem.W.isClsIn K C_Frame = true)
     (tyc_Frame : PySem.W.typeIn K (.ref C_Frame) = some (.type "type"))
     (su_Frame : PySem.W.subIn K (.type "str") (.ref C_Frame) = some false)
     (sb_Frame_int : PySem.W.subIn K (.ref C_Frame) (.type "int") = some false)
     (sb_Frame_bool : PySem.W.subIn K (.ref C_Frame) (.type "bool") = some false)
     (sb_Frame_str : PySem.W.subIn K (.ref C_Frame) (.type "str") = some false)
     (sb_Frame_tuple : PySem.W.subIn K (.ref C_Frame) (.type "tuple") = some false)
     (sb_Frame_list : PySem.W.subIn K (.ref C_Frame) (.type "list") = some false)
     (o_Frame : PySem.W.mroIn K C_Frame (.type "object") = some true)
     (ic_Frame : PySem.W.findIn K (.ref C_Frame) "__class__" = some (some (.builtin "object.__class__")))
     (pg_Maker : PySem.W.plainGet K C_Maker Str.empty = true)
     (hd_Maker : PySem.W.hasDictIn K C_Maker = true)
     (po_Maker : PySem.W.plainOver K C_Maker = true)
     (sa_Maker : PySem.W.findIn K (.ref C_Maker) "__setattr__" = some (some (.builtin "object.__setattr__")))
     (mk_Maker : PySem.W.makesIn K C_Maker = true)
     (kc_Maker : PySem.W.keepIn K (.ref C_Maker) = true)
     (na_Maker_rule : PySem.W.findIn K (.ref C_Maker) "rule" = some none)
     (na_Maker_word : PySem.W.findIn K (.ref C_Maker) "word" = some none)
     (na_Maker_spans : PySem.W.findIn K (.ref C_Maker) "spans" = some none)
     (na_Maker_kinds : PySem.W.findIn K (.ref C_Maker) "kinds" = some none)
     (isc_Maker : PySem.W.isClsIn K C_Maker = true)
     (tyc_Maker : PySem.W.typeIn K (.ref C_Maker) = some (.type "type"))
     (su_Maker : PySem.W.subIn K (.type "str") (.ref C_Maker) = some false)
     (sb_Maker_int : PySem.W.subIn K (.ref C_Maker) (.type "int") = some false)
     (sb_Maker_bool : PySem.W.subIn K (.ref C_Maker) (.type "bool") = some false)
     (sb_Maker_str : PySem.W.subIn K (.ref C_Maker) (.type "str") = some false)
     (sb_Maker_tuple : PySem.W.subIn K (.ref C_Maker) (.type "tuple") = some false)
     (sb_Maker_list : PySem.W.subIn K (.ref C_Maker) (.type "list") = some false)
     (o_Maker : PySem.W.mroIn K C_Maker (.type "object") = some true)
     (ic_Maker : PySem.W.findIn K (.ref C_Maker) "__class__" = some (some (.builtin "object.__class__")))
     (oc1 : PySem.W.specialIn K (.builtin "object.__class__") "__get__" = some (some (.builtin "getset_descriptor.__get__")))
     (oc2 : PySem.W.takesIn K (.builtin "object.__class__") = some true)
     (b_abs : PySem.W.nsIn K mainGlobals "abs" = some none)
     (b_all : PySem.W.nsIn K mainGlobals "all" = some none)
     (b_bool : PySem.W.nsIn K mainGlobals "bool" = some none)
     (b_enumerate : PySem.W.nsIn K mainGlobals "enumerate" = some none)
     (b_int : PySem.W.nsIn K mainGlobals "int" = some none)
     (b_isinstance : PySem.W.nsIn K mainGlobals "isinstance" = some none)
     (b_len : PySem.W.nsIn K mainGlobals "len" = some none)
     (b_list : PySem.W.nsIn K mainGlobals "list" = some none)
     (b_max : PySem.W.nsIn K mainGlobals "max" = some none)
     (b_min : PySem.W.nsIn K mainGlobals "min" = some none)
     (b_range : PySem.W.nsIn K mainGlobals "range" = some none)
     (b_repr : PySem.W.nsIn K mainGlobals "repr" = some none)
     (b_sorted : PySem.W.nsIn K mainGlobals "sorted" = some none)
     (b_tuple : PySem.W.nsIn K mainGlobals "tuple" = some none)
     (b_zip : PySem.W.nsIn K mainGlobals "zip" = some none)
     (a_FIRST_HEAD : PySem.W.nsIn K mainGlobals "FIRST_HEAD" = some (some (.ref c_FIRST_HEAD)))
    {td_FIRST_HEAD : Option Addr} {it_FIRST_HEAD : Array Value} {tn_FIRST_HEAD : Nat} {ts_FIRST_HEAD : Array (Option Value)} (l_FIRST_HEAD : K.lookup c_FIRST_HEAD = some ⟨.type "tuple", td_FIRST_HEAD, .seq it_FIRST_HEAD tn_FIRST_HEAD, ts_FIRST_HEAD⟩)
     (lv_FIRST_HEAD : it_FIRST_HEAD.toList.mapM absV = some v_FIRST_HEAD)
     (a_FIRST_TALLY : PySem.W.nsIn K mainGlobals "FIRST_TALLY" = some (some (.ref c_FIRST_TALLY)))
    {td_FIRST_TALLY : Option Addr} {it_FIRST_TALLY : Array Value} {tn_FIRST_TALLY : Nat} {ts_FIRST_TALLY : Array (Option Value)} (l_FIRST_TALLY : K.lookup c_FIRST_TALLY = some ⟨.type "tuple", td_FIRST_TALLY, .seq it_FIRST_TALLY tn_FIRST_TALLY, ts_FIRST_TALLY⟩)
     (lv_FIRST_TALLY : it_FIRST_TALLY.toList.mapM absV = some v_FIRST_TALLY)
     (a_KINDS : PySem.W.nsIn K mainGlobals "KINDS" = some (some (.ref c_KINDS)))
    {td_KINDS : Option Addr} {it_KINDS : Array Value} {tn_KINDS : Nat} {ts_KINDS : Array (Option Value)} (l_KINDS : K.lookup c_KINDS = some ⟨.type "tuple", td_KINDS, .seq it_KINDS tn_KINDS, ts_KINDS⟩)
     (lv_KINDS : it_KINDS.toList.mapM absV = some v_KINDS)
     (a_PRIVATE_WORDS : PySem.W.nsIn K mainGlobals "PRIVATE_WORDS" = some (some (.ref c_PRIVATE_WORDS)))
    {td_PRIVATE_WORDS : Option Addr} {it_PRIVATE_WORDS : Array Value} {tn_PRIVATE_WORDS : Nat} {ts_PRIVATE_WORDS : Array (Option Value)} (l_PRIVATE_WORDS : K.lookup c_PRIVATE_WORDS = some ⟨.type "tuple", td_PRIVATE_WORDS, .seq it_PRIVATE_WORDS tn_PRIVATE_WORDS, ts_PRIVATE_WORDS⟩)
     (lv_PRIVATE_WORDS : it_PRIVATE_WORDS.toList.mapM absV = some v_PRIVATE_WORDS)
     (a_WORDS : PySem.W.nsIn K mainGlobals "WORDS" = some (some (.ref c_WORDS)))
    {td_WORDS : Option Addr} {it_WORDS : Array Value} {tn_WORDS : Nat} {ts_WORDS : Array (Option Value)} (l_WORDS : K.lookup c_WORDS = some ⟨.type "tuple", td_WORDS, .seq it_WORDS tn_WORDS, ts_WORDS⟩)
     (lv_WORDS : it_WORDS.toList.mapM absV = some v_WORDS)
    : ∃ fd : FuncData, (∀ (s : Shared) (v : Value), BindsTo s fd ⟨[v], []⟩ [("_law_script", v)]) ∧ ∀ base : Heap, K.In base → base.Ns mainGlobals mg → FnG l.prog w K mg base 9 fa fd ["_law_script"] (spLaw K) := by
  have e := hfa.symm.trans (PySem.W.mg_of X G a_law)
  cases e
  have T : Txt K mg { f__law_box := f__law_box, f_is_integer := f_is_integer, f_is_number := f_is_number, f__is_known := f__is_known, f_is_sequence := f_is_sequence, f__are_known := f__are_known, f_is_positive := f_is_positive, f_wrong_argument_frames := f_wrong_argument_frames, f__law_frame_of := f__law_frame_of, f__law_take := f__law_take, f__law_pick := f__law_pick, f__law_ground := f__law_ground, f__law_taken := f__law_taken, f__law_lets := f__law_lets, f__law_meetings := f__law_meetings, f__law_drawn := f__law_drawn, f__law_rule := f__law_rule, f__law_sort := f__law_sort, f__law_painted := f__law_painted, f__law_blocks := f__law_blocks, f__law_show := f__law_show, f__law_looks := f__law_looks, f__are_hours := f__are_hours, f_wrong_argument_rules := f_wrong_argument_rules, f__law_rule_of := f__law_rule_of, f__law_looks_of := f__law_looks_of, f__law_is_row := f__law_is_row, f__law_runs := f__law_runs, f__law_part := f__law_part, f__law_read := f__law_read, f__law_standing := f__law_standing, f__is_block := f__is_block, f_is_view := f_is_view, f_is_look := f_is_look, f_check_looks := f_check_looks, f_is_let := f_is_let, f_word_shown := f_word_shown, f_make_makers := f_make_makers, f__begun_head := f__begun_head, f_is_long_enough := f_is_long_enough, f_next_head := f_next_head, f_put_up := f_put_up, f_span_shown := f_span_shown, f_is_joined := f_is_joined, f_put_down := f_put_down, f__next_tally := f__next_tally, f__next_pair := f__next_pair, f_next_making := f_next_making, f_next_standing := f_next_standing, f_after := f_after, f_first_standing := f_first_standing, f_begun := f_begun, f_law := fa, f_Rule___init__ := f_Rule___init__, f_Frame___init__ := f_Frame___init__, z_Frame := z_Frame, f_Maker___init__ := f_Maker___init__, f_Maker_takes := f_Maker_takes, f_Maker_gone_on := f_Maker_gone_on, f_Maker_laid := f_Maker_laid, f_Maker_started := f_Maker_started, C_Rule := C_Rule, C_Frame := C_Frame, C_Maker := C_Maker, c_FIRST_HEAD := c_FIRST_HEAD, c_FIRST_TALLY := c_FIRST_TALLY, c_KINDS := c_KINDS, c_PRIVATE_WORDS := c_PRIVATE_WORDS, c_WORDS := c_WORDS } := { m__law_box := PySem.W.mg_of X G a__law_box, k__law_box := k__law_box, F__law_box := ⟨_, fun_mk (st := s__law_box) l__law_box c__law_box k__law_box⟩, m_is_integer := PySem.W.mg_of X G a_is_integer, k_is_integer := k_is_integer, F_is_integer := ⟨_, fun_mk (st := s_is_integer) l_is_integer c_is_integer k_is_integer⟩, m_is_number := PySem.W.mg_of X G a_is_number, k_is_number := k_is_number, F_is_number := ⟨_, fun_mk (st := s_is_number) l_is_number c_is_number k_is_number⟩, m__is_known := PySem.W.mg_of X G a__is_known, k__is_known := k__is_known, F__is_known := ⟨_, fun_mk (st := s__is_known) l__is_known c__is_known k__is_known⟩, m_is_sequence := PySem.W.mg_of X G a_is_sequence, k_is_sequence := k_is_sequence, F_is_sequence := ⟨_, fun_mk (st := s_is_sequence) l_is_sequence c_is_sequence k_is_sequence⟩, m__are_known := PySem.W.mg_of X G a__are_known, k__are_known := k__are_known, F__are_known := ⟨_, fun_mk (st := s__are_known) l__are_known c__are_known k__are_known⟩, m_is_positive := PySem.W.mg_of X G a_is_positive, k_is_positive := k_is_positive, F_is_positive := ⟨_, fun_mk (st := s_is_positive) l_is_positive c_is_positive k_is_positive⟩, m_wrong_argument_frames := PySem.W.mg_of X G a_wrong_argument_frames, k_wrong_argument_frames := k_wrong_argument_frames, F_wrong_argument_frames := ⟨_, fun_mk (st := s_wrong_argument_frames) l_wrong_argument_frames c_wrong_argument_frames k_wrong_argument_frames⟩, m__law_frame_of := PySem.W.mg_of X G a__law_frame_of, k__law_frame_of := k__law_frame_of, F__law_frame_of := ⟨_, fun_mk (st := s__law_frame_of) l__law_frame_of c__law_frame_of k__law_frame_of⟩, m__law_take := PySem.W.mg_of X G a__law_take, k__law_take := k__law_take, F__law_take := ⟨_, fun_mk (st := s__law_take) l__law_take c__law_take k__law_take⟩, m__law_pick := PySem.W.mg_of X G a__law_pick, k__law_pick := k__law_pick, F__law_pick := ⟨_, fun_mk (st := s__law_pick) l__law_pick c__law_pick k__law_pick⟩, m__law_ground := PySem.W.mg_of X G a__law_ground, k__law_ground := k__law_ground, F__law_ground := ⟨_, fun_mk (st := s__law_ground) l__law_ground c__law_ground k__law_ground⟩, m__law_taken := PySem.W.mg_of X G a__law_taken, k__law_taken := k__law_taken, F__law_taken := ⟨_, fun_mk (st := s__law_taken) l__law_taken c__law_taken k__law_taken⟩, m__law_lets := PySem.W.mg_of X G a__law_lets, k__law_lets := k__law_lets, F__law_lets := ⟨_, fun_mk (st := s__law_lets) l__law_lets c__law_lets k__law_lets⟩, m__law_meetings := PySem.W.mg_of X G a__law_meetings, k__law_meetings := k__law_meetings, F__law_meetings := ⟨_, fun_mk (st := s__law_meetings) l__law_meetings c__law_meetings k__law_meetings⟩, m__law_drawn := PySem.W.mg_of X G a__law_drawn, k__law_drawn := k__law_drawn, F__law_drawn := ⟨_, fun_mk (st := s__law_drawn) l__law_drawn c__law_drawn k__law_drawn⟩, m__law_rule := PySem.W.mg_of X G a__law_rule, k__law_rule := k__law_rule, F__law_rule := ⟨_, fun_mk (st := s__law_rule) l__law_rule c__law_rule k__law_rule⟩, m__law_sort := PySem.W.mg_of X G a__law_sort, k__law_sort := k__law_sort, F__law_sort := ⟨_, fun_mk (st := s__law_sort) l__law_sort c__law_sort k__law_sort⟩, m__law_painted := PySem.W.mg_of X G a__law_painted, k__law_painted := k__law_painted, F__law_painted := ⟨_, fun_mk (st := s__law_painted) l__law_painted c__law_painted k__law_painted⟩, m__law_blocks := PySem.W.mg_of X G a__law_blocks, k__law_blocks := k__law_blocks, F__law_blocks := ⟨_, fun_mk (st := s__law_blocks) l__law_blocks c__law_blocks k__law_blocks⟩, m__law_show := PySem.W.mg_of X G a__law_show, k__law_show := k__law_show, F__law_show := ⟨_, fun_mk (st := s__law_show) l__law_show c__law_show k__law_show⟩, m__law_looks := PySem.W.mg_of X G a__law_looks, k__law_looks := k__law_looks, F__law_looks := ⟨_, fun_mk (st := s__law_looks) l__law_looks c__law_looks k__law_looks⟩, m__are_hours := PySem.W.mg_of X G a__are_hours, k__are_hours := k__are_hours, F__are_hours := ⟨_, fun_mk (st := s__are_hours) l__are_hours c__are_hours k__are_hours⟩, m_wrong_argument_rules := PySem.W.mg_of X G a_wrong_argument_rules, k_wrong_argument_rules := k_wrong_argument_rules, F_wrong_argument_rules := ⟨_, fun_mk (st := s_wrong_argument_rules) l_wrong_argument_rules c_wrong_argument_rules k_wrong_argument_rules⟩, m__law_rule_of := PySem.W.mg_of X G a__law_rule_of, k__law_rule_of := k__law_rule_of, F__law_rule_of := ⟨_, fun_mk (st := s__law_rule_of) l__law_rule_of c__law_rule_of k__law_rule_of⟩, m__law_looks_of := PySem.W.mg_of X G a__law_looks_of, k__law_looks_of := k__law_looks_of, F__law_looks_of := ⟨_, fun_mk (st := s__law_looks_of) l__law_looks_of c__law_looks_of k__law_looks_of⟩, m__law_is_row := PySem.W.mg_of X G a__law_is_row, k__law_is_row := k__law_is_row, F__law_is_row := ⟨_, fun_mk (st := s__law_is_row) l__law_is_row c__law_is_row k__law_is_row⟩, m__law_runs := PySem.W.mg_of X G a__law_runs, k__law_runs := k__law_runs, F__law_runs := ⟨_, fun_mk (st := s__law_runs) l__law_runs c__law_runs k__law_runs⟩, m__law_part := PySem.W.mg_of X G a__law_part, k__law_part := k__law_part, F__law_part := ⟨_, fun_mk (st := s__law_part) l__law_part c__law_part k__law_part⟩, m__law_read := PySem.W.mg_of X G a__law_read, k__law_read := k__law_read, F__law_read := ⟨_, fun_mk (st := s__law_read) l__law_read c__law_read k__law_read⟩, m__law_standing := PySem.W.mg_of X G a__law_standing, k__law_standing := k__law_standing, F__law_standing := ⟨_, fun_mk (st := s__law_standing) l__law_standing c__law_standing k__law_standing⟩, m__is_block := PySem.W.mg_of X G a__is_block, k__is_block := k__is_block, F__is_block := ⟨_, fun_mk (st := s__is_block) l__is_block c__is_block k__is_block⟩, m_is_view := PySem.W.mg_of X G a_is_view, k_is_view := k_is_view, F_is_view := ⟨_, fun_mk (st := s_is_view) l_is_view c_is_view k_is_view⟩, m_is_look := PySem.W.mg_of X G a_is_look, k_is_look := k_is_look, F_is_look := ⟨_, fun_mk (st := s_is_look) l_is_look c_is_look k_is_look⟩, m_check_looks := PySem.W.mg_of X G a_check_looks, k_check_looks := k_check_looks, F_check_looks := ⟨_, fun_mk (st := s_check_looks) l_check_looks c_check_looks k_check_looks⟩, m_is_let := PySem.W.mg_of X G a_is_let, k_is_let := k_is_let, F_is_let := ⟨_, fun_mk (st := s_is_let) l_is_let c_is_let k_is_let⟩, m_word_shown := PySem.W.mg_of X G a_word_shown, k_word_shown := k_word_shown, F_word_shown := ⟨_, fun_mk (st := s_word_shown) l_word_shown c_word_shown k_word_shown⟩, m_make_makers := PySem.W.mg_of X G a_make_makers, k_make_makers := k_make_makers, F_make_makers := ⟨_, fun_mk (st := s_make_makers) l_make_makers c_make_makers k_make_makers⟩, m__begun_head := PySem.W.mg_of X G a__begun_head, k__begun_head := k__begun_head, F__begun_head := ⟨_, fun_mk (st := s__begun_head) l__begun_head c__begun_head k__begun_head⟩, m_is_long_enough := PySem.W.mg_of X G a_is_long_enough, k_is_long_enough := k_is_long_enough, F_is_long_enough := ⟨_, fun_mk (st := s_is_long_enough) l_is_long_enough c_is_long_enough k_is_long_enough⟩, m_next_head := PySem.W.mg_of X G a_next_head, k_next_head := k_next_head, F_next_head := ⟨_, fun_mk (st := s_next_head) l_next_head c_next_head k_next_head⟩, m_put_up := PySem.W.mg_of X G a_put_up, k_put_up := k_put_up, F_put_up := ⟨_, fun_mk (st := s_put_up) l_put_up c_put_up k_put_up⟩, m_span_shown := PySem.W.mg_of X G a_span_shown, k_span_shown := k_span_shown, F_span_shown := ⟨_, fun_mk (st := s_span_shown) l_span_shown c_span_shown k_span_shown⟩, m_is_joined := PySem.W.mg_of X G a_is_joined, k_is_joined := k_is_joined, F_is_joined := ⟨_, fun_mk (st := s_is_joined) l_is_joined c_is_joined k_is_joined⟩, m_put_down := PySem.W.mg_of X G a_put_down, k_put_down := k_put_down, F_put_down := ⟨_, fun_mk (st := s_put_down) l_put_down c_put_down k_put_down⟩, m__next_tally := PySem.W.mg_of X G a__next_tally, k__next_tally := k__next_tally, F__next_tally := ⟨_, fun_mk (st := s__next_tally) l__next_tally c__next_tally k__next_tally⟩, m__next_pair := PySem.W.mg_of X G a__next_pair, k__next_pair := k__next_pair, F__next_pair := ⟨_, fun_mk (st := s__next_pair) l__next_pair c__next_pair k__next_pair⟩, m_next_making := PySem.W.mg_of X G a_next_making, k_next_making := k_next_making, F_next_making := ⟨_, fun_mk (st := s_next_making) l_next_making c_next_making k_next_making⟩, m_next_standing := PySem.W.mg_of X G a_next_standing, k_next_standing := k_next_standing, F_next_standing := ⟨_, fun_mk (st := s_next_standing) l_next_standing c_next_standing k_next_standing⟩, m_after := PySem.W.mg_of X G a_after, k_after := k_after, F_after := ⟨_, fun_mk (st := s_after) l_after c_after k_after⟩, m_first_standing := PySem.W.mg_of X G a_first_standing, k_first_standing := k_first_standing, F_first_standing := ⟨_, fun_mk (st := s_first_standing) l_first_standing c_first_standing k_first_standing⟩, m_begun := PySem.W.mg_of X G a_begun, k_begun := k_begun, F_begun := ⟨_, fun_mk (st := s_begun) l_begun c_begun k_begun⟩, m_law := PySem.W.mg_of X G a_law, k_law := k_law, F_law := ⟨_, fun_mk (st := s_law) l_law c_law k_law⟩, F_Rule___init__ := ⟨_, fund_mk l_Rule___init__ lt_Rule___init__ lv_Rule___init__ (List.cons_ne_nil _ _) c_Rule___init__ k_Rule___init__⟩, w_zFrame := fun _ => sqt_mk l_zFrame lv_zFrame (by decide), F_Frame___init__ := ⟨_, fund_mk l_Frame___init__ lt_Frame___init__ lv_Frame___init__ (List.cons_ne_nil _ _) c_Frame___init__ k_Frame___init__⟩, F_Maker___init__ := ⟨_, fun_mk (st := s_Maker___init__) l_Maker___init__ c_Maker___init__ k_Maker___init__⟩, F_Maker_takes := ⟨_, fun_mk (st := s_Maker_takes) l_Maker_takes c_Maker_takes k_Maker_takes⟩, me_Maker_takes := ⟨a_Maker_takes, i_Maker_takes, k_Maker_takes⟩, F_Maker_gone_on := ⟨_, fun_mk (st := s_Maker_gone_on) l_Maker_gone_on c_Maker_gone_on k_Maker_gone_on⟩, me_Maker_gone_on := ⟨a_Maker_gone_on, i_Maker_gone_on, k_Maker_gone_on⟩, F_Maker_laid := ⟨_, fun_mk (st := s_Maker_laid) l_Maker_laid c_Maker_laid k_Maker_laid⟩, me_Maker_laid := ⟨a_Maker_laid, i_Maker_laid, k_Maker_laid⟩, F_Maker_started := ⟨_, fun_mk (st := s_Maker_started) l_Maker_started c_Maker_started k_Maker_started⟩, me_Maker_started := ⟨a_Maker_started, i_Maker_started, k_Maker_started⟩, m_Rule := PySem.W.mg_of X G a_Rule, cl_Rule := ⟨pg_Rule, hd_Rule, po_Rule, sa_Rule⟩, mk_Rule := ⟨mk_Rule, a_Rule___init__, i_Rule___init__, kc_Rule⟩, na_Rule_length := na_Rule_length, na_Rule_private := na_Rule_private, na_Rule_step := na_Rule_step, na_Rule_gap := na_Rule_gap, na_Rule_least := na_Rule_least, na_Rule_hours := na_Rule_hours, ks_Rule := kit_str isc_Rule tyc_Rule su_Rule, su_Rule := su_Rule, sb_Rule_int := sb_Rule_int, sb_Rule_bool := sb_Rule_bool, sb_Rule_str := sb_Rule_str, sb_Rule_tuple := sb_Rule_tuple, sb_Rule_list := sb_Rule_list, o_Rule := o_Rule, ic_Rule := ic_Rule, m_Frame := PySem.W.mg_of X G a_Frame, cl_Frame := ⟨pg_Frame, hd_Frame, po_Frame, sa_Frame⟩, mk_Frame := ⟨mk_Frame, a_Frame___init__, i_Frame___init__, kc_Frame⟩, na_Frame_length := na_Frame_length, na_Frame_shortest := na_Frame_shortest, na_Frame_most := na_Frame_most, na_Frame_private := na_Frame_private, na_Frame_known := na_Frame_known, ks_Frame := kit_str isc_Frame tyc_Frame su_Frame, su_Frame := su_Frame, sb_Frame_int := sb_Frame_int, sb_Frame_bool := sb_Frame_bool, sb_Frame_str := sb_Frame_str, sb_Frame_tuple := sb_Frame_tuple, sb_Frame_list := sb_Frame_list, o_Frame := o_Frame, ic_Frame := ic_Frame, m_Maker := PySem.W.mg_of X G a_Maker, cl_Maker := ⟨pg_Maker, hd_Maker, po_Maker, sa_Maker⟩, mk_Maker := ⟨mk_Maker, a_Maker___init__, i_Maker___init__, kc_Maker⟩, na_Maker_rule := na_Maker_rule, na_Maker_word := na_Maker_word, na_Maker_spans := na_Maker_spans, na_Maker_kinds := na_Maker_kinds, ks_Maker := kit_str isc_Maker tyc_Maker su_Maker, su_Maker := su_Maker, sb_Maker_int := sb_Maker_int, sb_Maker_bool := sb_Maker_bool, sb_Maker_str := sb_Maker_str, sb_Maker_tuple := sb_Maker_tuple, sb_Maker_list := sb_Maker_list, o_Maker := o_Maker, ic_Maker := ic_Maker, oc1 := oc1, oc2 := oc2, b_abs := PySem.W.mg_none_of X G b_abs, b_all := PySem.W.mg_none_of X G b_all, b_bool := PySem.W.mg_none_of X G b_bool, b_enumerate := PySem.W.mg_none_of X G b_enumerate, b_int := PySem.W.mg_none_of X G b_int, b_isinstance := PySem.W.mg_none_of X G b_isinstance, b_len := PySem.W.mg_none_of X G b_len, b_list := PySem.W.mg_none_of X G b_list, b_max := PySem.W.mg_none_of X G b_max, b_min := PySem.W.mg_none_of X G b_min, b_range := PySem.W.mg_none_of X G b_range, b_repr := PySem.W.mg_none_of X G b_repr, b_sorted := PySem.W.mg_none_of X G b_sorted, b_tuple := PySem.W.mg_none_of X G b_tuple, b_zip := PySem.W.mg_none_of X G b_zip, m_FIRST_HEAD := PySem.W.mg_of X G a_FIRST_HEAD, w_FIRST_HEAD := fun _ => sqt_mk l_FIRST_HEAD lv_FIRST_HEAD (by decide), m_FIRST_TALLY := PySem.W.mg_of X G a_FIRST_TALLY, w_FIRST_TALLY := fun _ => sqt_mk l_FIRST_TALLY lv_FIRST_TALLY (by decide), m_KINDS := PySem.W.mg_of X G a_KINDS, w_KINDS := fun _ => sqt_mk l_KINDS lv_KINDS (by decide), m_PRIVATE_WORDS := PySem.W.mg_of X G a_PRIVATE_WORDS, w_PRIVATE_WORDS := fun _ => sqt_mk l_PRIVATE_WORDS lv_PRIVATE_WORDS (by decide), m_WORDS := PySem.W.mg_of X G a_WORDS, w_WORDS := fun _ => sqt_mk l_WORDS lv_WORDS (by decide) }
  exact ⟨PySem.W.fnOf "law" "law" (defArgs s_law) (defBody s_law) (defScope s_law) .none kV_law do_law pm_law an_law cd_law ct_law, fun s v => .of_eq rfl, fun base _ _ => ok_law T (fun_mk l_law c_law k_law)⟩
theorem walk {l : PySem.W.OpenLaw} {q : Program} {loose : List Str} {XP : (Str → Option Value) → Heap → Prop} {YP : World → Heap → Prop} {d : DefRec} {K : Params → PySem.W.Frag} (hn : l.most = some 63) (hdf : d.params.defaults = [])
    (hY : ∀ (w : World) (h : Heap), YP w h → (K w.params).In h)
    (F : ∀ (w : World) (mg : Str → Option Value) (fa : Addr) (h : Heap), (K w.params).In h → h.Ns mainGlobals mg → mg d.name = some (.ref fa) →
      ∃ fd : FuncData, (∀ (s : Shared) (u : Value), BindsTo s fd ⟨[u], []⟩ [("_law_script", u)]) ∧ ∀ base : Heap, (K w.params).In base → base.Ns mainGlobals mg → FnG l.prog w (K w.params) mg base 9 fa fd ["_law_script"] (spLaw (K w.params))) :
    PySem.W.WalkO q loose XP YP l.row.toRowW d [] (fun f vs => PySem.call f vs) :=
  walk_ofG (n := 63) (k := 9) (x := "_law_script") (sp := spLaw) hn (by decide) hdf ⟨rfl, by decide, by decide⟩ hY F (fun _ _ a ns hl _ hS => ⟨a, ns, rfl, hS, hl, fun _ => rfl⟩)
end DD
open PySem PySem.W PyProof.Rows
set_option maxRecDepth 100000 in
set_option maxHeartbeats 0 in
theorem PySem.Challenge.cw_dimdays_k23_standings_tick_by_tick_holds : PySem.Challenge.rw_dimdays_k23_standings_tick_by_tick.Holds := by
  w_on; o_law; k_head; (case hw => w_witness2)
  k_fill
  refine DD.walk (l := PySem.Challenge.rw_dimdays_k23_standings_tick_by_tick) rfl rfl (fun w h Y => PySem.W.kIn_of Y) ?F
  case F =>
    intro w mg fa h KX G hmg
    refine' DD.all_mk KX G hmg ?a_Maker ?a_Frame ?a_Rule ?a__law_box ?l__law_box ?c__law_box ?k__law_box ?a_is_integer ?l_is_integer ?c_is_integer ?k_is_integer ?a_is_number ?l_is_number ?c_is_number ?k_is_number ?a__is_known ?l__is_known ?c__is_known ?k__is_known ?a_is_sequence ?l_is_sequence ?c_is_sequence ?k_is_sequence ?a__are_known ?l__are_known ?c__are_known ?k__are_known ?a_is_positive ?l_is_positive ?c_is_positive ?k_is_positive ?a_wrong_argument_frames ?l_wrong_argument_frames ?c_wrong_argument_frames ?k_wrong_argument_frames ?a__law_frame_of ?l__law_frame_of ?c__law_frame_of ?k__law_frame_of ?a__law_take ?l__law_take ?c__law_take ?k__law_take ?a__law_pick ?l__law_pick ?c__law_pick ?k__law_pick ?a__law_ground ?l__law_ground ?c__law_ground ?k__law_ground ?a__law_taken ?l__law_taken ?c__law_taken ?k__law_taken ?a__law_lets ?l__law_lets ?c__law_lets ?k__law_lets ?a__law_meetings ?l__law_meetings ?c__law_meetings ?k__law_meetings ?a__law_drawn ?l__law_drawn ?c__law_drawn ?k__law_drawn ?a__law_rule ?l__law_rule ?c__law_rule ?k__law_rule ?a__law_sort ?l__law_sort ?c__law_sort ?k__law_sort ?a__law_painted ?l__law_painted ?c__law_painted ?k__law_painted ?a__law_blocks ?l__law_blocks ?c__law_blocks ?k__law_blocks ?a__law_show ?l__law_show ?c__law_show ?k__law_show ?a__law_looks ?l__law_looks ?c__law_looks ?k__law_looks ?a__are_hours ?l__are_hours ?c__are_hours ?k__are_hours ?a_wrong_argument_rules ?l_wrong_argument_rules ?c_wrong_argument_rules ?k_wrong_argument_rules ?a__law_rule_of ?l__law_rule_of ?c__law_rule_of ?k__law_rule_of ?a__law_looks_of ?l__law_looks_of ?c__law_looks_of ?k__law_looks_of ?a__law_is_row ?l__law_is_row ?c__law_is_row ?k__law_is_row ?a__law_runs ?l__law_runs ?c__law_runs ?k__law_runs ?a__law_part ?l__law_part ?c__law_part ?k__law_part ?a__law_read ?l__law_read ?c__law_read ?k__law_read ?a__law_standing ?l__law_standing ?c__law_standing ?k__law_standing ?a__is_block ?l__is_block ?c__is_block ?k__is_block ?a_is_view ?l_is_view ?c_is_view ?k_is_view ?a_is_look ?l_is_look ?c_is_look ?k_is_look ?a_check_looks ?l_check_looks ?c_check_looks ?k_check_looks ?a_is_let ?l_is_let ?c_is_let ?k_is_let ?a_word_shown ?l_word_shown ?c_word_shown ?k_word_shown ?a_make_makers ?l_make_makers ?c_make_makers ?k_make_makers ?a__begun_head ?l__begun_head ?c__begun_head ?k__begun_head ?a_is_long_enough ?l_is_long_enough ?c_is_long_enough ?k_is_long_enough ?a_next_head ?l_next_head ?c_next_head ?k_next_head ?a_put_up ?l_put_up ?c_put_up ?k_put_up ?a_span_shown ?l_span_shown ?c_span_shown ?k_span_shown ?a_is_joined ?l_is_joined ?c_is_joined ?k_is_joined ?a_put_down ?l_put_down ?c_put_down ?k_put_down ?a__next_tally ?l__next_tally ?c__next_tally ?k__next_tally ?a__next_pair ?l__next_pair ?c__next_pair ?k__next_pair ?a_next_making ?l_next_making ?c_next_making ?k_next_making ?a_next_standing ?l_next_standing ?c_next_standing ?k_next_standing ?a_after ?l_after ?c_after ?k_after ?a_first_standing ?l_first_standing ?c_first_standing ?k_first_standing ?a_begun ?l_begun ?c_begun ?k_begun ?a_law ?l_law ?c_law ?k_law ?a_Rule___init__ ?i_Rule___init__ ?l_Rule___init__ ?lt_Rule___init__ ?lv_Rule___init__ ?c_Rule___init__ ?k_Rule___init__ ?a_Frame___init__ ?i_Frame___init__ ?l_Frame___init__ ?lt_Frame___init__ ?lv_Frame___init__ ?l_zFrame ?lv_zFrame ?c_Frame___init__ ?k_Frame___init__ ?a_Maker___init__ ?i_Maker___init__ ?l_Maker___init__ ?c_Maker___init__ ?k_Maker___init__ ?a_Maker_takes ?i_Maker_takes ?l_Maker_takes ?c_Maker_takes ?k_Maker_takes ?a_Maker_gone_on ?i_Maker_gone_on ?l_Maker_gone_on ?c_Maker_gone_on ?k_Maker_gone_on ?a_Maker_laid ?i_Maker_laid ?l_Maker_laid ?c_Maker_laid ?k_Maker_laid ?a_Maker_started ?i_Maker_started ?l_Maker_started ?c_Maker_started ?k_Maker_started ?pg_Rule ?hd_Rule ?po_Rule ?sa_Rule ?mk_Rule ?kc_Rule ?na_Rule_length ?na_Rule_private ?na_Rule_step ?na_Rule_gap ?na_Rule_least ?na_Rule_hours ?isc_Rule ?tyc_Rule ?su_Rule ?sb_Rule_int ?sb_Rule_bool ?sb_Rule_str ?sb_Rule_tuple ?sb_Rule_list ?o_Rule ?ic_Rule ?pg_Frame ?hd_Frame ?po_Frame ?sa_Frame ?mk_Frame ?kc_Frame ?na_Frame_length ?na_Frame_shortest ?na_Frame_most ?na_Frame_private ?na_Frame_known ?isc_Frame ?tyc_Frame ?su_Frame ?sb_Frame_int ?sb_Frame_bool ?sb_Frame_str ?sb_Frame_tuple ?sb_Frame_list ?o_Frame ?ic_Frame ?pg_Maker ?hd_Maker ?po_Maker ?sa_Maker ?mk_Maker ?kc_Maker ?na_Maker_rule ?na_Maker_word ?na_Maker_spans ?na_Maker_kinds ?isc_Maker ?tyc_Maker ?su_Maker ?sb_Maker_int ?sb_Maker_bool ?sb_Maker_str ?sb_Maker_tuple ?sb_Maker_list ?o_Maker ?ic_Maker ?oc1 ?oc2 ?b_abs ?b_all ?b_bool ?b_enumerate ?b_int ?b_isinstance ?b_len ?b_list ?b_max ?b_min ?b_range ?b_repr ?b_sorted ?b_tuple ?b_zip ?a_FIRST_HEAD ?l_FIRST_HEAD ?lv_FIRST_HEAD ?a_FIRST_TALLY ?l_FIRST_TALLY ?lv_FIRST_TALLY ?a_KINDS ?l_KINDS ?lv_KINDS ?a_PRIVATE_WORDS ?l_PRIVATE_WORDS ?lv_PRIVATE_WORDS ?a_WORDS ?l_WORDS ?lv_WORDS
    (case a_Maker => k_is)
    (case a_Frame => k_is)
    (case a_Rule => k_is)
    (case a__law_box => k_is)
    (case l__law_box => k_is)
    (case c__law_box => k_is)
    (case k__law_box => k_is)
    (case a_is_integer => k_is)
    (case l_is_integer => k_is)
    (case c_is_integer => k_is)
    (case k_is_integer => k_is)
    (case a_is_number => k_is)
    (case l_is_number => k_is)
    (case c_is_number => k_is)
    (case k_is_number => k_is)
    (case a__is_known => k_is)
    (case l__is_known => k_is)
    (case c__is_known => k_is)
    (case k__is_known => k_is)
    (case a_is_sequence => k_is)
    (case l_is_sequence => k_is)
    (case c_is_sequence => k_is)
    (case k_is_sequence => k_is)
    (case a__are_known => k_is)
    (case l__are_known => k_is)
    (case c__are_known => k_is)
    (case k__are_known => k_is)
    (case a_is_positive => k_is)
    (case l_is_positive => k_is)
    (case c_is_positive => k_is)
    (case k_is_positive => k_is)
    (case a_wrong_argument_frames => k_is)
    (case l_wrong_argument_frames => k_is)
    (case c_wrong_argument_frames => k_is)
    (case k_wrong_argument_frames => k_is)
    (case a__law_frame_of => k_is)
    (case l__law_frame_of => k_is)
    (case c__law_frame_of => k_is)
    (case k__law_frame_of => k_is)
    (case a__law_take => k_is)
    (case l__law_take => k_is)
    (case c__law_take => k_is)
    (case k__law_take => k_is)
    (case a__law_pick => k_is)
    (case l__law_pick => k_is)
    (case c__law_pick => k_is)
    (case k__law_pick => k_is)
    (case a__law_ground => k_is)
    (case l__law_ground => k_is)
    (case c__law_ground => k_is)
    (case k__law_ground => k_is)
    (case a__law_taken => k_is)
    (case l__law_taken => k_is)
    (case c__law_taken => k_is)
    (case k__law_taken => k_is)
    (case a__law_lets => k_is)
    (case l__law_lets => k_is)
    (case c__law_lets => k_is)
    (case k__law_lets => k_is)
    (case a__law_meetings => k_is)
    (case l__law_meetings => k_is)
    (case c__law_meetings => k_is)
    (case k__law_meetings => k_is)
    (case a__law_drawn => k_is)
    (case l__law_drawn => k_is)
    (case c__law_drawn => k_is)
    (case k__law_drawn => k_is)
    (case a__law_rule => k_is)
    (case l__law_rule => k_is)
    (case c__law_rule => k_is)
    (case k__law_rule => k_is)
    (case a__law_sort => k_is)
    (case l__law_sort => k_is)
    (case c__law_sort => k_is)
    (case k__law_sort => k_is)
    (case a__law_painted => k_is)
    (case l__law_painted => k_is)
    (case c__law_painted => k_is)
    (case k__law_painted => k_is)
    (case a__law_blocks => k_is)
    (case l__law_blocks => k_is)
    (case c__law_blocks => k_is)
    (case k__law_blocks => k_is)
    (case a__law_show => k_is)
    (case l__law_show => k_is)
    (case c__law_show => k_is)
    (case k__law_show => k_is)
    (case a__law_looks => k_is)
    (case l__law_looks => k_is)
    (case c__law_looks => k_is)
    (case k__law_looks => k_is)
    (case a__are_hours => k_is)
    (case l__are_hours => k_is)
    (case c__are_hours => k_is)
    (case k__are_hours => k_is)
    (case a_wrong_argument_rules => k_is)
    (case l_wrong_argument_rules => k_is)
    (case c_wrong_argument_rules => k_is)
    (case k_wrong_argument_rules => k_is)
    (case a__law_rule_of => k_is)
    (case l__law_rule_of => k_is)
    (case c__law_rule_of => k_is)
    (case k__law_rule_of => k_is)
    (case a__law_looks_of => k_is)
    (case l__law_looks_of => k_is)
    (case c__law_looks_of => k_is)
    (case k__law_looks_of => k_is)
    (case a__law_is_row => k_is)
    (case l__law_is_row => k_is)
    (case c__law_is_row => k_is)
    (case k__law_is_row => k_is)
    (case a__law_runs => k_is)
    (case l__law_runs => k_is)
    (case c__law_runs => k_is)
    (case k__law_runs => k_is)
    (case a__law_part => k_is)
    (case l__law_part => k_is)
    (case c__law_part => k_is)
    (case k__law_part => k_is)
    (case a__law_read => k_is)
    (case l__law_read => k_is)
    (case c__law_read => k_is)
    (case k__law_read => k_is)
    (case a__law_standing => k_is)
    (case l__law_standing => k_is)
    (case c__law_standing => k_is)
    (case k__law_standing => k_is)
    (case a__is_block => k_is)
    (case l__is_block => k_is)
    (case c__is_block => k_is)
    (case k__is_block => k_is)
    (case a_is_view => k_is)
    (case l_is_view => k_is)
    (case c_is_view => k_is)
    (case k_is_view => k_is)
    (case a_is_look => k_is)
    (case l_is_look => k_is)
    (case c_is_look => k_is)
    (case k_is_look => k_is)
    (case a_check_looks => k_is)
    (case l_check_looks => k_is)
    (case c_check_looks => k_is)
    (case k_check_looks => k_is)
    (case a_is_let => k_is)
    (case l_is_let => k_is)
    (case c_is_let => k_is)
    (case k_is_let => k_is)
    (case a_word_shown => k_is)
    (case l_word_shown => k_is)
    (case c_word_shown => k_is)
    (case k_word_shown => k_is)
    (case a_make_makers => k_is)
    (case l_make_makers => k_is)
    (case c_make_makers => k_is)
    (case k_make_makers => k_is)
    (case a__begun_head => k_is)
    (case l__begun_head => k_is)
    (case c__begun_head => k_is)
    (case k__begun_head => k_is)
    (case a_is_long_enough => k_is)
    (case l_is_long_enough => k_is)
    (case c_is_long_enough => k_is)
    (case k_is_long_enough => k_is)
    (case a_next_head => k_is)
    (case l_next_head => k_is)
    (case c_next_head => k_is)
    (case k_next_head => k_is)
    (case a_put_up => k_is)
    (case l_put_up => k_is)
    (case c_put_up => k_is)
    (case k_put_up => k_is)
    (case a_span_shown => k_is)
    (case l_span_shown => k_is)
    (case c_span_shown => k_is)
    (case k_span_shown => k_is)
    (case a_is_joined => k_is)
    (case l_is_joined => k_is)
    (case c_is_joined => k_is)
    (case k_is_joined => k_is)
    (case a_put_down => k_is)
    (case l_put_down => k_is)
    (case c_put_down => k_is)
    (case k_put_down => k_is)
    (case a__next_tally => k_is)
    (case l__next_tally => k_is)
    (case c__next_tally => k_is)
    (case k__next_tally => k_is)
    (case a__next_pair => k_is)
    (case l__next_pair => k_is)
    (case c__next_pair => k_is)
    (case k__next_pair => k_is)
    (case a_next_making => k_is)
    (case l_next_making => k_is)
    (case c_next_making => k_is)
    (case k_next_making => k_is)
    (case a_next_standing => k_is)
    (case l_next_standing => k_is)
    (case c_next_standing => k_is)
    (case k_next_standing => k_is)
    (case a_after => k_is)
    (case l_after => k_is)
    (case c_after => k_is)
    (case k_after => k_is)
    (case a_first_standing => k_is)
    (case l_first_standing => k_is)
    (case c_first_standing => k_is)
    (case k_first_standing => k_is)
    (case a_begun => k_is)
    (case l_begun => k_is)
    (case c_begun => k_is)
    (case k_begun => k_is)
    (case a_law => k_is)
    (case l_law => k_is)
    (case c_law => k_is)
    (case k_law => k_is)
    (case a_Rule___init__ => k_is)
    (case i_Rule___init__ => k_is)
    (case l_Rule___init__ => k_is)
    (case lt_Rule___init__ => k_is)
    (case lv_Rule___init__ => exact rfl)
    (case c_Rule___init__ => k_is)
    (case k_Rule___init__ => k_is)
    (case a_Frame___init__ => k_is)
    (case i_Frame___init__ => k_is)
    (case l_Frame___init__ => k_is)
    (case lt_Frame___init__ => k_is)
    (case lv_Frame___init__ => exact rfl)
    (case l_zFrame => k_is)
    (case lv_zFrame => exact rfl)
    (case c_Frame___init__ => k_is)
    (case k_Frame___init__ => k_is)
    (case a_Maker___init__ => k_is)
    (case i_Maker___init__ => k_is)
    (case l_Maker___init__ => k_is)
    (case c_Maker___init__ => k_is)
    (case k_Maker___init__ => k_is)
    (case a_Maker_takes => k_is)
    (case i_Maker_takes => k_is)
    (case l_Maker_takes => k_is)
    (case c_Maker_takes => k_is)
    (case k_Maker_takes => k_is)
    (case a_Maker_gone_on => k_is)
    (case i_Maker_gone_on => k_is)
    (case l_Maker_gone_on => k_is)
    (case c_Maker_gone_on => k_is)
    (case k_Maker_gone_on => k_is)
    (case a_Maker_laid => k_is)
    (case i_Maker_laid => k_is)
    (case l_Maker_laid => k_is)
    (case c_Maker_laid => k_is)
    (case k_Maker_laid => k_is)
    (case a_Maker_started => k_is)
    (case i_Maker_started => k_is)
    (case l_Maker_started => k_is)
    (case c_Maker_started => k_is)
    (case k_Maker_started => k_is)
    (case pg_Rule => k_is)
    (case hd_Rule => k_is)
    (case po_Rule => k_is)
    (case sa_Rule => k_is)
    (case mk_Rule => k_is)
    (case kc_Rule => k_is)
    (case na_Rule_length => k_is)
    (case na_Rule_private => k_is)
    (case na_Rule_step => k_is)
    (case na_Rule_gap => k_is)
    (case na_Rule_least => k_is)
    (case na_Rule_hours => k_is)
    (case isc_Rule => k_is)
    (case tyc_Rule => k_is)
    (case su_Rule => k_is)
    (case sb_Rule_int => k_is)
    (case sb_Rule_bool => k_is)
    (case sb_Rule_str => k_is)
    (case sb_Rule_tuple => k_is)
    (case sb_Rule_list => k_is)
    (case o_Rule => k_is)
    (case ic_Rule => k_is)
    (case pg_Frame => k_is)
    (case hd_Frame => k_is)
    (case po_Frame => k_is)
    (case sa_Frame => k_is)
    (case mk_Frame => k_is)
    (case kc_Frame => k_is)
    (case na_Frame_length => k_is)
    (case na_Frame_shortest => k_is)
    (case na_Frame_most => k_is)
    (case na_Frame_private => k_is)
    (case na_Frame_known => k_is)
    (case isc_Frame => k_is)
    (case tyc_Frame => k_is)
    (case su_Frame => k_is)
    (case sb_Frame_int => k_is)
    (case sb_Frame_bool => k_is)
    (case sb_Frame_str => k_is)
    (case sb_Frame_tuple => k_is)
    (case sb_Frame_list => k_is)
    (case o_Frame => k_is)
    (case ic_Frame => k_is)
    (case pg_Maker => k_is)
    (case hd_Maker => k_is)
    (case po_Maker => k_is)
    (case sa_Maker => k_is)
    (case mk_Maker => k_is)
    (case kc_Maker => k_is)
    (case na_Maker_rule => k_is)
    (case na_Maker_word => k_is)
    (case na_Maker_spans => k_is)
    (case na_Maker_kinds => k_is)
    (case isc_Maker => k_is)
    (case tyc_Maker => k_is)
    (case su_Maker => k_is)
    (case sb_Maker_int => k_is)
    (case sb_Maker_bool => k_is)
    (case sb_Maker_str => k_is)
    (case sb_Maker_tuple => k_is)
    (case sb_Maker_list => k_is)
    (case o_Maker => k_is)
    (case ic_Maker => k_is)
    (case oc1 => k_is)
    (case oc2 => k_is)
    (case b_abs => k_is)
    (case b_all => k_is)
    (case b_bool => k_is)
    (case b_enumerate => k_is)
    (case b_int => k_is)
    (case b_isinstance => k_is)
    (case b_len => k_is)
    (case b_list => k_is)
    (case b_max => k_is)
    (case b_min => k_is)
    (case b_range => k_is)
    (case b_repr => k_is)
    (case b_sorted => k_is)
    (case b_tuple => k_is)
    (case b_zip => k_is)
    (case a_FIRST_HEAD => k_is)
    (case l_FIRST_HEAD => k_is)
    (case lv_FIRST_HEAD => exact rfl)
    (case a_FIRST_TALLY => k_is)
    (case l_FIRST_TALLY => k_is)
    (case lv_FIRST_TALLY => exact rfl)
    (case a_KINDS => k_is)
    (case l_KINDS => k_is)
    (case lv_KINDS => exact rfl)
    (case a_PRIVATE_WORDS => k_is)
    (case l_PRIVATE_WORDS => k_is)
    (case lv_PRIVATE_WORDS => exact rfl)
    (case a_WORDS => k_is)
    (case l_WORDS => k_is)
    (case lv_WORDS => exact rfl)
