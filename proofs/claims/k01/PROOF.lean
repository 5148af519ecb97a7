import PyProof.Rows.All
import Wide.All
import OpenK.AllK
import Wide.FinOn
import HandS.ForMost
import HandS.Defaults
import HandS.Property
import HandS.OwnEq
import HandS.FStr
import HandS.IsInst
import HandS.TupAny
import HandS.Evl
import HandS.Star
import HandS.SlotsOwn
import KE.KCallOwn
import HandS.Conv
import HandS.ClsMeth
import HandS.CallLocal
import HandS.Text
import HandS.StrMore
import HandS.Style
import HandS.Lambda
import PyProof.ReprRoads
import HandS.SortRule
import HandS.Iter
import KE.LtData
import KE.DataFind
import HandS.Deep
import HandS.RaiseMore
import HandS.SortInts
import HandS.NoneIn
import HandS.RevRange
import KE.SortData
import HandS.Ends
import HandS.Zip
import HandS.Dict
import KE.KStar
import KE.KParD
import HandS.Words
import HandS.TryOnly
import HandS.ExcInit
import HandS.ExcOwn
import HandS.ExcIs
import HandS.ExcField
import HandS.WordsExc
import KE.KExcIs
import KE.GoesRaise
import KE.KxMul
import KE.GoesMore
import KE.GoesZip
import KE.KTurns
import KE.KExcInit
import PyProof.ExcBaseAll.IndexError
import HandS.ExcValue
import HandS.FStrTup
import KE.OsRunLaw
import PySem.Challenge.RW_dimdays_k01_errors_and_what_they_keep
set_option Elab.async false
set_option linter.all false
set_option maxRecDepth 100000
set_option maxHeartbeats 2000000
namespace DD
open PySem PySem.Spec PyProof.Rows L2
section
variable {X : Cx} {CX : CXT} {k : Nat} {f C p g : Addr} {sp : Sp} {E : XK} {x m : Str} {pp pos apos : Pos} {e o : Expr} {es : List Expr} {ta : TE} {t : TA}
def tCallR (sp : Sp) (E : XK) (t : TA) : TE := fun σ H Q => t σ H fun vs H1 => sp vs H1 Q E
theorem wp_fnR {pins : List (Addr × Obj)} {σ : L2.St} {H : Hp} {s : Shared} {Q : VK} {us : List Value} {vs : List V} (F : FnR X.prog X.w X.K X.mg X.base CX k f sp) (hr : Room k X.A) (hx : Passes CX X E) (I : Inv X pins σ H s) (r : Vals vs us) (h : sp vs H Q E) :
    wpAny (model X.prog X.w) X.A (call (.ref f) us) (EP X pins σ Q) X.xe s := wpAny_call (run_fnR F hr hx I r h)
theorem pe_callR (F : FnR X.prog X.w X.K X.mg X.base CX k f sp) (hr : Room k X.A) (hg : Gl X x) (hm : X.mg x = some (.ref f)) (hk : PySem.W.keepIn X.K (.ref f) = true) (hx : Passes CX X E)
    (ha : PA X (e :: es) t) (hdb : (x == ("__debug__" : Str)) = false := by decide) (he : starEach (e :: es) X.env = (false, eval e X.env) :: starEach es X.env := by rfl) (hpl : (backTo pos (starEach es X.env)).any (·.1) = false := by rfl) :
    PE X (.Call (.Name x pp) (e :: es) [] pos) (tCallR sp E t) := by
  refine ⟨fun pins s σ H Q I h => ?_⟩
  refine wpAny_Call_Name_kw (ld_glob I hg hm ?_ hdb)
  refine PySem.W.callWith_K (h₀ := X.base) I.ok.mod.kin hk (thn (ha.run pos pins s σ H _ I h) fun us s1 ⟨vs, H1, I1, r, q⟩ => ⟨I1.kIn, ?_⟩) he hpl
  exact wp_fnR F hr hx I1 r q
end
end DD
set_option Elab.async false
set_option linter.all false
set_option maxRecDepth 100000
set_option maxHeartbeats 2000000
namespace DD
open PySem PySem.Spec PyProof.Rows L2
theorem inK {X : Cx} {K : PySem.W.Frag} (h : X.K = K := by rfl) : OpR X (compareOp .In) (rIn K false) := h ▸ op_in_seq
end DD
set_option Elab.async false
set_option linter.all false
set_option maxRecDepth 100000
set_option maxHeartbeats 2000000
namespace DD
open PySem PySem.Spec PyProof.Rows L2
theorem Same.mut {H H' : Hp} {p : Addr} {o : HO} (e : Same H H') (h : H p = none) : Same H (upd H' p o) := fun a u ha => by
  rw [upd_ne (ne_of_none ha h)]
  exact e a u ha
theorem ixN_last {ws : List V} {x : V} : ixN (ws ++ [x]).length (-1) = some ws.length := by
  unfold ixN
  rw [if_neg (by decide), if_pos (by rw [List.length_append, List.length_singleton]; omega), List.length_append, List.length_singleton]
  congr 1
  omega
theorem set_last {ws : List V} {x y : V} : (ws ++ [x]).set ws.length y = ws ++ [y] := by
  rw [List.set_append_right _ _ (Nat.le_refl _)]
  simp
def IsRw {α : Type} (f : α → List V) (H : Hp) (v : V) (m : α) : Prop := ∃ a, v = .ref a ∧ H a = some (.tup (f m))
def IsRs {α : Type} (f : α → List V) (H : Hp) (vs : List V) (ms : List α) : Prop := vs.length = ms.length ∧ ∀ (i : Nat) v m, vs[i]? = some v → ms[i]? = some m → IsRw f H v m
section
variable {α : Type} {f : α → List V}
theorem IsRw.on {H H' : Hp} {v : V} {m : α} (e : ∀ a xs, H a = some (.tup xs) → H' a = some (.tup xs)) (x : IsRw f H v m) : IsRw f H' v m := by
  obtain ⟨a, e1, e2⟩ := x
  exact ⟨a, e1, e _ _ e2⟩
theorem IsRs.on {H H' : Hp} {vs : List V} {ms : List α} (e : ∀ a xs, H a = some (.tup xs) → H' a = some (.tup xs)) (x : IsRs f H vs ms) : IsRs f H' vs ms := ⟨x.1, fun i v m h1 h2 => (x.2 i v m h1 h2).on e⟩
theorem IsRs.mono {H H' : Hp} {vs : List V} {ms : List α} (e : Same H H') (x : IsRs f H vs ms) : IsRs f H' vs ms := x.on fun a xs h => e a _ h
theorem IsRs.nil {H : Hp} : IsRs f H [] [] := ⟨rfl, fun i v m h => by simp at h⟩
theorem IsRs.get {H : Hp} {vs : List V} {ms : List α} (x : IsRs f H vs ms) {i : Nat} {v : V} (h : vs[i]? = some v) : ∃ m, ms[i]? = some m ∧ IsRw f H v m := by
  have hi : i < ms.length := by rw [← x.1]; exact (List.getElem?_eq_some_iff.mp h).1
  exact ⟨ms[i], List.getElem?_eq_getElem hi, x.2 i v _ h (List.getElem?_eq_getElem hi)⟩
theorem IsRs.cons {H : Hp} {v : V} {m : α} {vs : List V} {ms : List α} (x : IsRw f H v m) (xs : IsRs f H vs ms) : IsRs f H (v :: vs) (m :: ms) := by
  refine ⟨by simp [xs.1], fun i v' m' h1 h2 => ?_⟩
  cases i with
  | zero =>
    simp at h1 h2
    subst h1 h2
    exact x
  | succ i =>
    simp at h1 h2
    exact xs.2 i v' m' h1 h2
theorem IsRs.one {H : Hp} {v : V} {m : α} (x : IsRw f H v m) : IsRs f H [v] [m] := .cons x .nil
theorem IsRs.take {H : Hp} {vs : List V} {ms : List α} (x : IsRs f H vs ms) (n : Nat) : IsRs f H (vs.take n) (ms.take n) := by
  refine ⟨by simp [x.1], fun i v m h1 h2 => ?_⟩
  rw [List.getElem?_take] at h1 h2
  split at h1
  · rename_i hi
    rw [if_pos hi] at h2
    exact x.2 i v m h1 h2
  · cases h1
end
/-- rows of values, each as told -/
structure AllR {α : Type} (R : V → α → Prop) (vs : List V) (ms : List α) : Prop where
  len : vs.length = ms.length
  at_ : ∀ (i : Nat) v m, vs[i]? = some v → ms[i]? = some m → R v m
theorem AllR.nil {α : Type} {R : V → α → Prop} : AllR R [] [] := ⟨rfl, fun i v m h => by simp at h⟩
theorem AllR.imp {α : Type} {R S : V → α → Prop} {vs : List V} {ms : List α} (h : ∀ v m, R v m → S v m) (x : AllR R vs ms) : AllR S vs ms := ⟨x.len, fun i v m h1 h2 => h v m (x.at_ i v m h1 h2)⟩
theorem AllR.get {α : Type} {R : V → α → Prop} {vs : List V} {ms : List α} (x : AllR R vs ms) {i : Nat} {v : V} (h : vs[i]? = some v) : ∃ m, ms[i]? = some m ∧ R v m := by
  have hi : i < ms.length := by rw [← x.len]; exact (List.getElem?_eq_some_iff.mp h).1
  exact ⟨ms[i], List.getElem?_eq_getElem hi, x.at_ i v _ h (List.getElem?_eq_getElem hi)⟩
theorem none_of {H H' : Hp} {a : Addr} (e : Same H H') (h : H' a = none) : H a = none := by
  cases z : H a with
  | none => rfl
  | some o => rw [e a o z] at h; cases h
end DD
set_option Elab.async false
set_option linter.all false
set_option maxRecDepth 100000
set_option maxHeartbeats 2000000
namespace DL
open PySem PySem.Spec PyProof.Rows L2 DD
abbrev Fg := PySem.W.Frag
/-- data -/
inductive D where
  | non | bl (b : Bool) | int (i : Int) | str (x : Str)
  | tup (ds : List D) | lst (ds : List D) | scr (ds : List D) | ins (C : Addr) (ks : List Str) (ds : List D) | cls (C : Addr)
  deriving Inhabited
/-- what is owned: its content -/
inductive O where
  | lst (ds : List D) | ins (C : Addr) (ks : List Str) (ds : List D)
@[simp] def O.d : O → D
  | .lst ds => .lst ds
  | .ins C ks ds => .ins C ks ds
inductive Slot where
  | none | val (d : D) | own (o : O) | bor (o : O) | lck (o : O)
abbrev En := List Slot
mutual
/-- v stands for d, in the frozen part G -/
inductive Rep (K : Fg) (G : Hp) : V → D → Prop
  | non : Rep K G .non .non
  | bl (b : Bool) : Rep K G (.bl b) (.bl b)
  | int (i : Int) : Rep K G (.int i) (.int i)
  | str (x : Str) : Rep K G (.str x) (.str x)
  | tup {a : Addr} {vs : List V} {ds : List D} : SqT K G a vs → RepA K G vs ds → Rep K G (.ref a) (.tup ds)
  | lst {a : Addr} {vs : List V} {ds : List D} : G a = some (.lst vs) → RepA K G vs ds → Rep K G (.ref a) (.lst ds)
  | scr {a : Addr} {vs : List V} {ds : List D} : SqL K G a vs → RepA K G vs ds → Rep K G (.ref a) (.scr ds)
  | ins {a C dx : Addr} {fs : List (Str × V)} {ks : List Str} {ds : List D} : G a = some (.ins C dx fs) → fs.map (·.1) = ks → RepA K G (fs.map (·.2)) ds → Rep K G (.ref a) (.ins C ks ds)
  | cls (C : Addr) : Rep K G (.ref C) (.cls C)
inductive RepA (K : Fg) (G : Hp) : List V → List D → Prop
  | nil : RepA K G [] []
  | cons {v : V} {vs : List V} {d : D} {ds : List D} : Rep K G v d → RepA K G vs ds → RepA K G (v :: vs) (d :: ds)
end
theorem smNew {H : Hp} {p : Addr} {o : HO} (h : H p = none) : Same H (upd H p o) := fun a u e => by
  rw [upd_ne (ne_of_none e h)]
  exact e
theorem smTup {K : Fg} {H H' : Hp} {a : Addr} {xs : List V} (e : Same H H') (h : SqT K H a xs) : SqT K H' a xs := by
  rcases h with (h | ⟨o, h⟩) | h
  · exact .inl (.inl (e _ _ h))
  · exact .inl (.inr ⟨o, e _ _ h⟩)
  · exact .inr h
theorem smLst {K : Fg} {H H' : Hp} {a : Addr} {xs : List V} (e : Same H H') (h : SqL K H a xs) : SqL K H' a xs := by
  rcases h with (h | ⟨o, h⟩) | h
  · exact .inl (.inl (e _ _ h))
  · exact .inl (.inr ⟨o, e _ _ h⟩)
  · exact .inr h
section
variable {K : Fg} {G G' : Hp}
mutual
theorem Rep.mono (e : Same G G') : ∀ {v : V} {d : D}, Rep K G v d → Rep K G' v d
  | _, _, .non => .non
  | _, _, .bl b => .bl b
  | _, _, .int i => .int i
  | _, _, .str x => .str x
  | _, _, .tup h r => .tup (smTup e h) (RepA.mono e r)
  | _, _, .lst h r => .lst (e _ _ h) (RepA.mono e r)
  | _, _, .scr h r => .scr (smLst e h) (RepA.mono e r)
  | _, _, .ins h k r => .ins (e _ _ h) k (RepA.mono e r)
  | _, _, .cls C => .cls C
theorem RepA.mono (e : Same G G') : ∀ {vs : List V} {ds : List D}, RepA K G vs ds → RepA K G' vs ds
  | _, _, .nil => .nil
  | _, _, .cons h r => .cons (Rep.mono e h) (RepA.mono e r)
end
theorem RepA.len : ∀ {vs : List V} {ds : List D}, RepA K G vs ds → vs.length = ds.length
  | _, _, .nil => rfl
  | _, _, .cons _ r => by rw [List.length_cons, List.length_cons, r.len]
theorem RepA.get : ∀ {vs : List V} {ds : List D} {i : Nat} {d : D}, RepA K G vs ds → ds[i]? = some d → ∃ v, vs[i]? = some v ∧ Rep K G v d
  | _, _, _, _, .nil, h => by simp at h
  | _, _, 0, _, .cons h r, e => by simp at e; subst e; exact ⟨_, rfl, h⟩
  | _, _, i + 1, _, .cons h r, e => by
    obtain ⟨v, h1, h2⟩ := r.get (i := i) (by simpa using e)
    exact ⟨v, by simpa using h1, h2⟩
theorem RepA.app : ∀ {vs ws : List V} {ds es : List D}, RepA K G vs ds → RepA K G ws es → RepA K G (vs ++ ws) (ds ++ es)
  | _, _, _, _, .nil, r => r
  | _, _, _, _, .cons h r, s => .cons h (r.app s)
theorem RepA.take : ∀ {vs : List V} {ds : List D} (n : Nat), RepA K G vs ds → RepA K G (vs.take n) (ds.take n)
  | _, _, 0, _ => .nil
  | _, _, _ + 1, .nil => .nil
  | _, _, n + 1, .cons h r => .cons h (r.take n)
theorem RepA.drop : ∀ {vs : List V} {ds : List D} (n : Nat), RepA K G vs ds → RepA K G (vs.drop n) (ds.drop n)
  | _, _, 0, r => r
  | _, _, _ + 1, .nil => .nil
  | _, _, n + 1, .cons h r => r.drop n
theorem RepA.set : ∀ {vs : List V} {ds : List D} {v : V} {d : D} (i : Nat), RepA K G vs ds → Rep K G v d → RepA K G (vs.set i v) (ds.set i d)
  | _, _, _, _, _, .nil, _ => .nil
  | _, _, _, _, 0, .cons h r, s => .cons s r
  | _, _, _, _, i + 1, .cons h r, s => .cons h (r.set i s)
theorem RepA.one {v : V} {d : D} (h : Rep K G v d) : RepA K G [v] [d] := .cons h .nil
theorem RepA.ofInts : ∀ {ns : List Int}, RepA K G (ns.map V.int) (ns.map D.int)
  | [] => .nil
  | n :: ns => .cons (.int n) RepA.ofInts
end
/-- tables of code objects: they may grow -/
abbrev Tbs := List (Addr × Str)
structure Fm where
  H0 : Hp
  G0 : Hp
  M : Nat → Option Addr
  L : Nat → Option Addr
  T : Tbs
/-- the tables stand, none is frozen -/
def TabR (T : Tbs) (G0 G H : Hp) : Prop := LamX.Tabs T H ∧ (∀ p ∈ T, G p.1 = none) ∧ ∀ a o, G a = some o → G0 a = none → ∀ ps, o ≠ .tbl ps
/-- neither a table nor a code object -/
def Usual (a : Addr) (u : HO) : Prop := (∀ ps, u ≠ .tbl ps) ∧ ∀ q, u ≠ LamX.CodeO a q
theorem usual_lst {a : Addr} {vs : List V} : Usual a (.lst vs) := ⟨fun _ h => (by cases h), fun _ h => (by unfold LamX.CodeO at h; cases h)⟩
theorem usual_ins {a C dx : Addr} {fs : List (Str × V)} : Usual a (.ins C dx fs) := ⟨fun _ h => (by cases h), fun _ h => (by unfold LamX.CodeO at h; cases h)⟩
theorem TabR.nil {G H : Hp} : TabR [] G G H := ⟨fun p h => (by simp at h), fun p h => (by simp at h), fun a o h h' => (by rw [h] at h'; cases h')⟩
theorem TabR.tbl {T : Tbs} {G0 G H : Hp} (t : TabR T G0 G H) {p : Addr × Str} (h : p ∈ T) : ∃ ps, H p.1 = some (.tbl ps) := by
  obtain ⟨ps, e, _⟩ := t.1 p h
  exact ⟨ps, e⟩
theorem TabR.grow {T : Tbs} {G0 G H H' : Hp} (t : TabR T G0 G H) (e : Same H H') : TabR T G0 G H' := ⟨t.1.ext e, t.2⟩
theorem TabR.chg {T : Tbs} {G0 G H : Hp} {a : Addr} {u o : HO} (t : TabR T G0 G H) (ha : H a = some u) (n : Usual a u) : TabR T G0 G (upd H a o) := ⟨fun p hp => by
  obtain ⟨ps, h1, h2, h3⟩ := t.1 p hp
  refine ⟨ps, ?_, h2, fun pos cv hc => ?_⟩
  · rw [upd_ne (fun z => by rw [z, ha] at h1; exact n.1 ps (Option.some.inj h1))]
    exact h1
  · obtain ⟨c, e1, e2⟩ := h3 pos cv hc
    refine ⟨c, e1, ?_⟩
    rw [upd_ne (fun z => by rw [z, ha] at e2; exact n.2 _ (Option.some.inj e2))]
    exact e2, t.2⟩
/-- all that stood and was not changed; what is newly frozen was not there -/
theorem TabR.after {T : Tbs} {G0 G G' H H' : Hp} {ch : Addr → Prop} (t : TabR T G0 G H) (s : Same G G') (gt : ∀ b o, G' b = some o → G b = none → ∀ ps, o ≠ .tbl ps) (g : ∀ b o, G' b = some o → G b = none → H b = none) (hk : ∀ b o, H b = some o → ¬ ch b → H' b = some o) (n : ∀ b u, ch b → H b = some u → Usual b u) : TabR T G0 G' H' := by
  refine ⟨fun p hp => ?_, fun p hp => ?_, fun a o h h0 => ?_⟩
  · obtain ⟨ps, h1, h2, h3⟩ := t.1 p hp
    refine ⟨ps, hk _ _ h1 fun z => (n _ _ z h1).1 ps rfl, h2, fun pos cv hc => ?_⟩
    obtain ⟨c, e1, e2⟩ := h3 pos cv hc
    exact ⟨c, e1, hk _ _ e2 fun z => (n _ _ z e2).2 _ rfl⟩
  · cases e : G' p.1 with
    | none => rfl
    | some o =>
      obtain ⟨ps, h1⟩ := t.tbl hp
      have := g _ _ e (t.2.1 p hp)
      rw [h1] at this
      cases this
  · cases e : G a with
    | none => exact gt a o h e
    | some u =>
      rw [s _ _ e] at h
      have q := Option.some.inj h
      subst q
      exact t.2.2 a _ e h0
theorem TabR.frz {T : Tbs} {G0 G H : Hp} {a : Addr} {o : HO} (t : TabR T G0 G H) (h : H a = some o) (n : ∀ ps, o ≠ .tbl ps) : TabR T G0 (upd G a o) H := by
  refine ⟨t.1, fun p hp => ?_, fun b u e h0 => ?_⟩
  · obtain ⟨ps, h1⟩ := t.tbl hp
    rw [upd_ne (fun z => by rw [z, h] at h1; exact n ps (Option.some.inj h1))]
    exact t.2.1 p hp
  · by_cases q : b = a
    · subst q
      rw [upd_same] at e
      cases e
      exact n
    · rw [upd_ne q] at e
      exact t.2.2 b u e h0
def ObjO (K : Fg) (G H : Hp) (a : Addr) : O → Prop
  | .lst ds => ∃ vs, H a = some (.lst vs) ∧ RepA K G vs ds
  | .ins C ks ds => ∃ dx fs, H a = some (.ins C dx fs) ∧ fs.map (·.1) = ks ∧ RepA K G (fs.map (·.2)) ds
theorem ObjO.mono {K : Fg} {G G' H H' : Hp} {a : Addr} {o : O} (e : Same G G') (k : ∀ u, H a = some u → H' a = some u) (h : ObjO K G H a o) : ObjO K G' H' a o := by
  cases o with
  | lst ds =>
    obtain ⟨vs, h1, h2⟩ := h
    exact ⟨vs, k _ h1, h2.mono e⟩
  | ins C ks ds =>
    obtain ⟨dx, fs, h1, h2, h3⟩ := h
    exact ⟨dx, fs, k _ h1, h2, h3.mono e⟩
theorem ObjO.ex {K : Fg} {G H : Hp} {a : Addr} {o : O} (h : ObjO K G H a o) : ∃ u, H a = some u := by
  cases o with
  | lst ds => exact ⟨_, h.choose_spec.1⟩
  | ins C ks ds =>
    obtain ⟨dx, fs, h1, _⟩ := h
    exact ⟨_, h1⟩
theorem ObjO.usual {K : Fg} {G H : Hp} {a : Addr} {o : O} {u : HO} (h : ObjO K G H a o) (e : H a = some u) : Usual a u := by
  cases o with
  | lst ds =>
    obtain ⟨vs, h1, _⟩ := h
    rw [h1] at e
    cases e
    exact usual_lst
  | ins C ks ds =>
    obtain ⟨dx, fs, h1, _⟩ := h
    rw [h1] at e
    cases e
    exact usual_ins
def SlotR (K : Fg) (F : Fm) (G H : Hp) (i : Nat) (x : Option V) : Slot → Prop
  | .none => True
  | .val d => ∃ v, x = some v ∧ Rep K G v d
  | .own o => ∃ a, x = some (.ref a) ∧ F.H0 a = none ∧ G a = none ∧ ObjO K G H a o
  | .bor o => ∃ a, x = some (.ref a) ∧ F.M i = some a ∧ G a = none ∧ ObjO K G H a o
  | .lck o => ∃ a u, x = some (.ref a) ∧ F.L i = some a ∧ G a = none ∧ F.H0 a = some u ∧ (∀ j, F.M j ≠ some a) ∧ ObjO K G H a o
structure Rl (K : Fg) (F : Fm) (G H : Hp) (σ : L2.St) (ρ : En) : Prop where
  gh : Same G H
  g0 : Same F.G0 G
  gn : ∀ a o, G a = some o → F.G0 a = none → F.H0 a = none
  hk : ∀ a o, F.H0 a = some o → (∀ i, F.M i ≠ some a) → H a = some o
  hm : ∀ i a, F.M i = some a → H a ≠ none ∧ F.H0 a ≠ none ∧ ∃ o, ρ[i]? = some (.bor o)
  hl : ∀ i a, F.L i = some a → ∃ o, ρ[i]? = some (.lck o)
  sl : ∀ i s, ρ[i]? = some s → ∃ x, σ[i]? = some x ∧ SlotR K F G H i x s
  di : ∀ (i j : Nat) (o o' : O) (a : Addr), ρ[i]? = some (.own o) → ρ[j]? = some (.own o') → σ[i]? = some (some (.ref a)) → σ[j]? = some (some (.ref a)) → i = j
  mi : ∀ i j a, F.M i = some a → F.M j = some a → i = j
  tb : TabR F.T F.G0 G H
section
variable {K : Fg} {F : Fm} {G G' H H' : Hp} {σ σ' : L2.St} {ρ ρ' : En} {a p : Addr}
theorem Rl.fresh (R : Rl K F G H σ ρ) (h : H p = none) : F.H0 p = none := by
  cases e : F.H0 p with
  | none => rfl
  | some o =>
    by_cases q : ∃ i, F.M i = some p
    · obtain ⟨i, q⟩ := q
      exact absurd h (R.hm i p q).1
    · have := R.hk p o e fun i z => q ⟨i, z⟩
      rw [h] at this
      cases this
theorem Rl.freshG (R : Rl K F G H σ ρ) (h : H p = none) : G p = none := none_of R.gh h
/-- the owner's address -/
theorem Rl.own {i : Nat} {o : O} (R : Rl K F G H σ ρ) (h : ρ[i]? = some (.own o)) : ∃ a, σ[i]? = some (some (.ref a)) ∧ F.H0 a = none ∧ G a = none ∧ ObjO K G H a o := by
  obtain ⟨x, h1, a, rfl, h2, h3, h4⟩ := R.sl i _ h
  exact ⟨a, h1, h2, h3, h4⟩
theorem Rl.bor {i : Nat} {o : O} (R : Rl K F G H σ ρ) (h : ρ[i]? = some (.bor o)) : ∃ a, σ[i]? = some (some (.ref a)) ∧ F.M i = some a ∧ G a = none ∧ ObjO K G H a o := by
  obtain ⟨x, h1, a, rfl, h2, h3, h4⟩ := R.sl i _ h
  exact ⟨a, h1, h2, h3, h4⟩
theorem Rl.val {i : Nat} {d : D} (R : Rl K F G H σ ρ) (h : ρ[i]? = some (.val d)) : ∃ v, σ[i]? = some (some v) ∧ Rep K G v d := by
  obtain ⟨x, h1, v, rfl, h2⟩ := R.sl i _ h
  exact ⟨v, h1, h2⟩
/-- a slot whose object stands as before -/
theorem SlotR.mono {i : Nat} {x : Option V} {s : Slot} (e : Same G G') (n : ∀ a, x = some (.ref a) → G a = none → (∃ u, H a = some u) → G' a = none) (k : ∀ a u, x = some (.ref a) → H a = some u → H' a = some u) (h : SlotR K F G H i x s) : SlotR K F G' H' i x s := by
  cases s with
  | none => trivial
  | val d =>
    obtain ⟨v, e1, e2⟩ := h
    exact ⟨v, e1, e2.mono e⟩
  | own o =>
    obtain ⟨a, e1, e2, e3, e4⟩ := h
    exact ⟨a, e1, e2, n a e1 e3 e4.ex, e4.mono e fun u => k a u e1⟩
  | bor o =>
    obtain ⟨a, e1, e2, e3, e4⟩ := h
    exact ⟨a, e1, e2, n a e1 e3 e4.ex, e4.mono e fun u => k a u e1⟩
  | lck o =>
    obtain ⟨a, u, e1, e2, e3, e5, e6, e4⟩ := h
    exact ⟨a, u, e1, e2, n a e1 e3 e4.ex, e5, e6, e4.mono e fun u => k a u e1⟩
theorem smNewG {o : HO} (h : G a = none) : Same G (upd G a o) := smNew h
/-- the heap grows, nothing that stood changes -/
theorem Rl.grow (R : Rl K F G H σ ρ) (k : Same H H') : Rl K F G H' σ ρ where
  gh := R.gh.trans k
  g0 := R.g0
  gn := R.gn
  hk := fun a o h n => k _ _ (R.hk a o h n)
  hm := fun i a h => by
    obtain ⟨h1, h2, h3⟩ := R.hm i a h
    refine ⟨fun z => ?_, h2, h3⟩
    cases e : H a with
    | none => exact h1 e
    | some u => rw [k a u e] at z; cases z
  hl := R.hl
  sl := fun i s h => by
    obtain ⟨x, h1, h2⟩ := R.sl i s h
    exact ⟨x, h1, h2.mono (Same.refl G) (fun _ _ g _ => g) fun a u _ e => k a u e⟩
  di := R.di
  mi := R.mi
  tb := R.tb.grow k
theorem Rl.laid {o : HO} (R : Rl K F G H σ ρ) (h : H p = none) : Rl K F G (upd H p o) σ ρ := R.grow (smNew h)
/-- what no slot owns is frozen -/
theorem Rl.frz {o : HO} (R : Rl K F G H σ ρ) (h : H a = some o) (h0 : F.H0 a = none) (hg : G a = none) (n : ∀ (j : Nat) (u : O), ρ[j]? = some (.own u) → σ[j]? ≠ some (some (.ref a))) (nt : ∀ ps, o ≠ .tbl ps) : Rl K F (upd G a o) H σ ρ where
  gh := fun b u e => by
    by_cases q : b = a
    · subst q
      rw [upd_same] at e
      cases e
      exact h
    · rw [upd_ne q] at e
      exact R.gh b u e
  g0 := R.g0.trans (smNew hg)
  gn := fun b u e g => by
    by_cases q : b = a
    · subst q; exact h0
    · rw [upd_ne q] at e
      exact R.gn b u e g
  hk := R.hk
  hm := R.hm
  hl := R.hl
  sl := fun i s hs => by
    obtain ⟨x, h1, h2⟩ := R.sl i s hs
    refine ⟨x, h1, ?_⟩
    have ne : ∀ b, b ≠ a → G b = none → upd G a o b = none := fun b q g => by rw [upd_ne q]; exact g
    have M := smNewG (o := o) hg
    cases s with
    | none => trivial
    | val d =>
      obtain ⟨v, e1, e2⟩ := h2
      exact ⟨v, e1, e2.mono M⟩
    | own u =>
      obtain ⟨b, rfl, e2, e3, e4⟩ := h2
      exact ⟨b, rfl, e2, ne b (fun q => n i u hs (by rw [h1, q])) e3, e4.mono M fun _ z => z⟩
    | bor u =>
      obtain ⟨b, rfl, e2, e3, e4⟩ := h2
      exact ⟨b, rfl, e2, ne b (fun q => (R.hm i b e2).2.1 (by rw [q]; exact h0)) e3, e4.mono M fun _ z => z⟩
    | lck u =>
      obtain ⟨b, u', rfl, e2, e3, e5, e6, e4⟩ := h2
      exact ⟨b, u', rfl, e2, ne b (fun q => by rw [q, h0] at e5; cases e5) e3, e5, e6, e4.mono M fun _ z => z⟩
  di := R.di
  mi := R.mi
  tb := R.tb.frz h nt
/-- a new frozen object -/
theorem Rl.add {o : HO} (R : Rl K F G H σ ρ) (h : H p = none) (nt : ∀ ps, o ≠ .tbl ps := by intro ps h; cases h) : Rl K F (upd G p o) (upd H p o) σ ρ := by
  refine (R.laid (o := o) h).frz upd_same (R.fresh h) (R.freshG h) (fun j u hj z => ?_) nt
  obtain ⟨b, h1, _, _, h4⟩ := R.own hj
  rw [h1] at z
  cases z
  obtain ⟨u, e⟩ := h4.ex
  rw [h] at e
  cases e
theorem getset {α : Type} {l : List α} {i j : Nat} {x y : α} (h : (l.set i x)[j]? = some y) : (i = j ∧ x = y ∧ i < l.length) ∨ (i ≠ j ∧ l[j]? = some y) := by
  by_cases e : i = j
  · subst e
    by_cases q : i < l.length
    · rw [List.getElem?_set_self q] at h
      exact .inl ⟨rfl, Option.some.inj h, q⟩
    · rw [List.getElem?_eq_none (by simpa using q)] at h
      cases h
  · rw [List.getElem?_set_ne e] at h
    exact .inr ⟨e, h⟩
theorem Rl.lt {i : Nat} (R : Rl K F G H σ ρ) (h : i < ρ.length) : i < σ.length := by
  obtain ⟨x, h1, _⟩ := R.sl i _ (List.getElem?_eq_getElem h)
  exact (List.getElem?_eq_some_iff.mp h1).1
/-- may a name be stored to -/
def Slot.free : Slot → Bool
  | .bor _ | .lck _ => false
  | _ => true
@[simp] def freeAt (ρ : En) (i : Nat) : Bool := match ρ[i]? with
  | some s => s.free
  | none => false
theorem freeAt_lt {i : Nat} (h : freeAt ρ i = true) : i < ρ.length := by
  unfold freeAt at h
  cases e : ρ[i]? with
  | none => rw [e] at h; cases h
  | some s => exact (List.getElem?_eq_some_iff.mp e).1
/-- a slot is stored to -/
theorem Rl.put {i : Nat} {v : V} {s : Slot} (R : Rl K F G H σ ρ) (hf : freeAt ρ i = true) (hs : SlotR K F G H i (some v) s) (hn : s.free = true) (hd : ∀ (o : O), s = .own o → ∀ (j : Nat) (o' : O), j ≠ i → ρ[j]? = some (.own o') → σ[j]? ≠ some (some v)) : Rl K F G H (σ.set i (some v)) (ρ.set i s) where
  gh := R.gh
  g0 := R.g0
  gn := R.gn
  hk := R.hk
  hm := fun j a h => by
    obtain ⟨h1, h2, o, h3⟩ := R.hm j a h
    refine ⟨h1, h2, o, ?_⟩
    by_cases e : i = j
    · subst e
      unfold freeAt at hf
      rw [h3] at hf
      cases hf
    · rw [List.getElem?_set_ne e]; exact h3
  hl := fun j a h => by
    obtain ⟨o, h3⟩ := R.hl j a h
    refine ⟨o, ?_⟩
    by_cases e : i = j
    · subst e
      unfold freeAt at hf
      rw [h3] at hf
      cases hf
    · rw [List.getElem?_set_ne e]; exact h3
  sl := fun j t h => by
    rcases getset h with ⟨rfl, rfl, hl⟩ | ⟨ne, h⟩
    · exact ⟨some v, by rw [List.getElem?_set_self (R.lt hl)], hs⟩
    · obtain ⟨x, h1, h2⟩ := R.sl j t h
      exact ⟨x, by rw [List.getElem?_set_ne ne]; exact h1, h2⟩
  di := fun j k o o' a h1 h2 h3 h4 => by
    have hil : i < ρ.length := freeAt_lt hf
    rcases getset h1 with ⟨rfl, rfl, _⟩ | ⟨n1, h1⟩
    · rcases getset h2 with ⟨rfl, _, _⟩ | ⟨n2, h2⟩
      · rfl
      · rw [List.getElem?_set_self (R.lt hil)] at h3
        rw [List.getElem?_set_ne n2] at h4
        cases h3
        exact absurd h4 (hd o rfl k o' (Ne.symm n2) h2)
    · have h1x := h1
      rw [List.getElem?_set_ne n1] at h3
      rcases getset h2 with ⟨rfl, rfl, _⟩ | ⟨n2, h2⟩
      · rw [List.getElem?_set_self (R.lt hil)] at h4
        cases h4
        exact absurd h3 (hd o' rfl j o (Ne.symm n1) h1x)
      · rw [List.getElem?_set_ne n2] at h4
        exact R.di j k o o' a h1 h2 h3 h4
  mi := R.mi
  tb := R.tb
/-- a slot is forgotten -/
theorem Rl.forget {i : Nat} {x : Option V} (R : Rl K F G H σ ρ) (hf : freeAt ρ i = true) : Rl K F G H (σ.set i x) (ρ.set i .none) where
  gh := R.gh
  g0 := R.g0
  gn := R.gn
  hk := R.hk
  hm := fun j a h => by
    obtain ⟨h1, h2, o, h3⟩ := R.hm j a h
    refine ⟨h1, h2, o, ?_⟩
    by_cases e : i = j
    · subst e
      unfold freeAt at hf
      rw [h3] at hf
      cases hf
    · rw [List.getElem?_set_ne e]; exact h3
  hl := fun j a h => by
    obtain ⟨o, h3⟩ := R.hl j a h
    refine ⟨o, ?_⟩
    by_cases e : i = j
    · subst e
      unfold freeAt at hf
      rw [h3] at hf
      cases hf
    · rw [List.getElem?_set_ne e]; exact h3
  sl := fun j t h => by
    rcases getset h with ⟨rfl, rfl, hl⟩ | ⟨ne, h⟩
    · exact ⟨x, by rw [List.getElem?_set_self (R.lt hl)], trivial⟩
    · obtain ⟨x, h1, h2⟩ := R.sl j t h
      exact ⟨x, by rw [List.getElem?_set_ne ne]; exact h1, h2⟩
  di := fun j k o o' a h1 h2 h3 h4 => by
    rcases getset h1 with ⟨rfl, e, _⟩ | ⟨n1, h1⟩
    · cases e
    · rcases getset h2 with ⟨rfl, e, _⟩ | ⟨n2, h2⟩
      · cases e
      · rw [List.getElem?_set_ne n1] at h3
        rw [List.getElem?_set_ne n2] at h4
        exact R.di j k o o' a h1 h2 h3 h4
  mi := R.mi
  tb := R.tb
/-- what is owned changes -/
def Slot.re : Slot → O → Option Slot
  | .own _, o => some (.own o)
  | .bor _, o => some (.bor o)
  | _, _ => Option.none
def Slot.co : Slot → Option O
  | .own o | .bor o => some o
  | _ => Option.none
theorem re_cases {s s' : Slot} {o : O} (h : s.re o = some s') : (∃ u, s = .own u ∧ s' = .own o) ∨ (∃ u, s = .bor u ∧ s' = .bor o) := by
  cases s <;> simp [Slot.re] at h
  · exact .inl ⟨_, rfl, h.symm⟩
  · exact .inr ⟨_, rfl, h.symm⟩
theorem co_cases {s : Slot} {o : O} (h : s.co = some o) : s = .own o ∨ s = .bor o := by
  cases s <;> simp [Slot.co] at h
  · exact .inl (by rw [h])
  · exact .inr (by rw [h])
theorem Rl.holder {i : Nat} {s : Slot} {o : O} (R : Rl K F G H σ ρ) (h : ρ[i]? = some s) (hc : s.co = some o) : ∃ a, σ[i]? = some (some (.ref a)) ∧ G a = none ∧ ObjO K G H a o := by
  rcases co_cases hc with rfl | rfl
  · obtain ⟨a, h1, _, h2, h3⟩ := R.own h
    exact ⟨a, h1, h2, h3⟩
  · obtain ⟨a, h1, _, h2, h3⟩ := R.bor h
    exact ⟨a, h1, h2, h3⟩
theorem Rl.mut {i : Nat} {s s' : Slot} {o : O} {u : HO} (R : Rl K F G H σ ρ) (h : ρ[i]? = some s) (hs : s.re o = some s') (hv : σ[i]? = some (some (.ref a))) (ho : ObjO K G (upd H a u) a o) : Rl K F G (upd H a u) σ (ρ.set i s') := by
  have hil : i < ρ.length := (List.getElem?_eq_some_iff.mp h).1
  have hg : G a = none := by
    rcases re_cases hs with ⟨u0, rfl, rfl⟩ | ⟨u0, rfl, rfl⟩
    · obtain ⟨b, h1, _, h2, _⟩ := R.own h
      rw [hv] at h1; cases h1; exact h2
    · obtain ⟨b, h1, _, h2, _⟩ := R.bor h
      rw [hv] at h1; cases h1; exact h2
  have exo : ∃ w, ObjO K G H a w := by
    rcases re_cases hs with ⟨u0, rfl, rfl⟩ | ⟨u0, rfl, rfl⟩
    · obtain ⟨b, h1, _, _, h2⟩ := R.own h
      rw [hv] at h1; cases h1; exact ⟨_, h2⟩
    · obtain ⟨b, h1, _, _, h2⟩ := R.bor h
      rw [hv] at h1; cases h1; exact ⟨_, h2⟩
  obtain ⟨wo, exo⟩ := exo
  have ex := exo.ex
  have hc : ∀ x, F.H0 a = some x → ∃ j, F.M j = some a := fun x e => by
    rcases re_cases hs with ⟨u0, rfl, rfl⟩ | ⟨u0, rfl, rfl⟩
    · obtain ⟨b, h1, h2, _⟩ := R.own h
      rw [hv] at h1; cases h1; rw [h2] at e; cases e
    · obtain ⟨b, h1, h2, _⟩ := R.bor h
      rw [hv] at h1; cases h1; exact ⟨i, h2⟩
  have hold : H a = some (Classical.choose ex) ∧ Usual a (Classical.choose ex) := ⟨Classical.choose_spec ex, exo.usual (Classical.choose_spec ex)⟩
  refine ⟨fun b x e => ?_, R.g0, R.gn, fun b x e n => ?_, fun j b e => ?_, fun j b e => ?_, fun j t e => ?_, fun j k w w' b h1 h2 h3 h4 => ?_, R.mi, R.tb.chg hold.1 hold.2⟩
  · rw [upd_ne (ne_of_none e hg)]
    exact R.gh b x e
  · by_cases q : b = a
    · subst q
      obtain ⟨j, z⟩ := hc x e
      exact absurd z (n j)
    · rw [upd_ne q]
      exact R.hk b x e n
  · obtain ⟨h1, h2, w, h3⟩ := R.hm j b e
    refine ⟨fun z => ?_, h2, ?_⟩
    · by_cases q : b = a
      · rw [q, upd_same] at z; cases z
      · rw [upd_ne q] at z; exact h1 z
    · by_cases q : i = j
      · subst q
        rw [h] at h3
        rcases re_cases hs with ⟨u0, rfl, rfl⟩ | ⟨u0, rfl, rfl⟩
        · cases h3
        · exact ⟨o, List.getElem?_set_self hil⟩
      · rw [List.getElem?_set_ne q]
        exact ⟨w, h3⟩
  · obtain ⟨w, h3⟩ := R.hl j b e
    by_cases q : i = j
    · subst q
      rw [h] at h3
      rcases re_cases hs with ⟨u0, rfl, rfl⟩ | ⟨u0, rfl, rfl⟩ <;> cases h3
    · rw [List.getElem?_set_ne q]
      exact ⟨w, h3⟩
  · rcases getset e with ⟨rfl, rfl, _⟩ | ⟨ne, e'⟩
    · refine ⟨_, hv, ?_⟩
      rcases re_cases hs with ⟨u0, rfl, rfl⟩ | ⟨u0, rfl, rfl⟩
      · obtain ⟨b, h1, h2, h3, _⟩ := R.own h
        rw [hv] at h1; cases h1
        exact ⟨_, rfl, h2, h3, ho⟩
      · obtain ⟨b, h1, h2, h3, _⟩ := R.bor h
        rw [hv] at h1; cases h1
        exact ⟨_, rfl, h2, h3, ho⟩
    · obtain ⟨x, h1, h2⟩ := R.sl j t e'
      refine ⟨x, h1, ?_⟩
      have far : ∀ {b w}, b ≠ a → ObjO K G H b w → ObjO K G (upd H a u) b w := fun {b w} q z => z.mono (Same.refl G) fun y e => by rw [upd_ne q]; exact e
      cases t with
      | none => trivial
      | val d => exact h2
      | own w =>
        obtain ⟨b, rfl, e2, e3, e4⟩ := h2
        refine ⟨b, rfl, e2, e3, far (fun q => ?_) e4⟩
        subst q
        rcases re_cases hs with ⟨u0, rfl, rfl⟩ | ⟨u0, rfl, rfl⟩
        · exact ne (R.di i j _ _ b h e' hv h1)
        · obtain ⟨c, h1, h2, _⟩ := R.bor h
          rw [hv] at h1; cases h1
          exact (R.hm i _ h2).2.1 e2
      | bor w =>
        obtain ⟨b, rfl, e2, e3, e4⟩ := h2
        refine ⟨b, rfl, e2, e3, far (fun q => ?_) e4⟩
        subst q
        rcases re_cases hs with ⟨u0, rfl, rfl⟩ | ⟨u0, rfl, rfl⟩
        · obtain ⟨c, h1, h2, _⟩ := R.own h
          rw [hv] at h1; cases h1
          exact (R.hm j _ e2).2.1 h2
        · obtain ⟨c, h1, h2, _⟩ := R.bor h
          rw [hv] at h1; cases h1
          exact ne (R.mi i j b h2 e2)
      | lck w =>
        obtain ⟨b, y, rfl, e2, e3, e5, e6, e4⟩ := h2
        refine ⟨b, y, rfl, e2, e3, e5, e6, far (fun q => ?_) e4⟩
        subst q
        obtain ⟨j, z⟩ := hc y e5
        exact e6 j z
  · rcases getset h1 with ⟨rfl, e1, _⟩ | ⟨n1, h1'⟩
    · rcases getset h2 with ⟨rfl, _, _⟩ | ⟨n2, h2'⟩
      · rfl
      · rcases re_cases hs with ⟨u0, rfl, rfl⟩ | ⟨u0, rfl, rfl⟩
        · exact R.di _ _ _ _ b h h2' h3 h4
        · cases e1
    · rcases getset h2 with ⟨rfl, e2, _⟩ | ⟨n2, h2'⟩
      · rcases re_cases hs with ⟨u0, rfl, rfl⟩ | ⟨u0, rfl, rfl⟩
        · exact R.di _ _ _ _ b h1' h h3 h4
        · cases e2
      · exact R.di j k w w' b h1' h2' h3 h4
end
end DL
set_option Elab.async false
set_option linter.all false
set_option maxRecDepth 100000
set_option maxHeartbeats 2000000
namespace DD
open PySem PySem.Spec PyProof.Rows L2
section
variable {X : Cx}
/-- repr(x), x a list, tuple or dict of data -/
def rReprD (K : PySem.W.Frag) : List V → Hp → VK → Prop := fun xs H Q => ∃ a d, xs = [.ref a] ∧ Dp K H (.ref a) d ∧ d.showable = true ∧ d.hasDict = false ∧ d.depth ≤ 60 ∧ d.shown.length ≤ sizeLine ∧ Q (.str d.shown) H
theorem call_reprD (hg : X.A.guards = some []) (hu : X.A.units + 64 < cLine) : CallR X (.builtin "repr") (rReprD X.K) := by
  intro pins s σ H xs us Q I r h
  obtain ⟨a, d, rfl, hd, hs, hn, hp, hz, q⟩ := h
  obtain ⟨u, rfl, ru⟩ := r.one
  obtain ⟨as, rd⟩ := Dp.reads I d _ u hd ru
  obtain rfl : u = Value.ref a := ru
  exact repr_of_reads' rd hs (fun e => by rw [hn] at e; cases e) hg (by omega) (fun _ _ e => e) (fun h' u tk hk => ⟨.str d.shown, H, I.kept hk, ⟨u, rfl⟩, q⟩) hz
end
section
variable {P : Program} {w : World} {K : PySem.W.Frag} {mg : Str → Option Value} {base : Heap}
/-- a def's promise where the guards are known -/
def FnG (P : Program) (w : World) (K : PySem.W.Frag) (mg : Str → Option Value) (base : Heap) (k : Nat) (f : Addr) (fd : FuncData) (ps : List Str) (sp : Sp) : Prop :=
  ∀ (A : Around) (outer : List Env) (s : Shared) (H : Hp) (args : Args) (us : List Value) (vs : List V) (Q : VK) (E : XK), Room k A → A.guards = some [] → Env0 P w K mg base A outer s H → BindsTo s fd args (ps.zip us) → Vals vs us → sp vs H Q E →
    codeAny (model P w) A (.call (.ref f) args) (CR CX0 outer P w H s Q E) s
theorem fnG_of {name qual : Str} {params : Arguments} {body : List Stmt} {scope : Scope} {dV kV doc pm cdv ct oc : Value} {an od : Option Addr} {f : Addr} {k : Nat} {osl : Array (Option Value)} {N ps : List Str} {sp : Sp}
    (lk : K.lookup f = some ⟨oc, od, .func (PySem.W.fnOf name qual params body scope dV kV doc pm an cdv ct), osl⟩) (hcd : PySem.W.codeIn K cdv qual = true) (S : FnScope N ps scope) (len : ∀ vs H Q E, sp vs H Q E → vs.length = ps.length)
    (hbody : ∀ (A : Around) (outer : List Env) (s : Shared) (H : Hp) (vs : List V) (Q : VK) (E : XK), Room k (A.deeper (envOfC qual scope s.heap.objs.size f cdv)) → (A.deeper (envOfC qual scope s.heap.objs.size f cdv)).guards = some [] → sp vs H Q E →
      ∃ t, PSs (cxOf CX0 P w K mg base N qual scope f cdv A outer s H E).nox body t ∧ t { nx := fun _ H' => Q .non H', rt := Q } (start N vs) H) :
    FnG P w K mg base (k + 1) f (PySem.W.fnOf name qual params body scope dV kV doc pm an cdv ct) ps sp := by
  intro A outer s H args us vs Q E room hg e0 binds vals h
  have inS : ∀ {b : Addr} {o : Obj}, base.get? b = some o → s.heap.get? b = some o := fun e => (e0.bs _ _ e).1
  have kinS : K.In s.heap := e0.mod.kin.keeps fun _ _ => inS
  refine codeAny_call_function room.depth (kinS _ _ lk) rfl S.co S.gen rfl (PySem.W.codeRec_of kinS hcd) (binds _ _ _ _ (wpAny_newFunctionEnv_cells S.kind (fun y hy => ?_) fun env he s1 x => ?_))
  · have hp := S.par y.1 (List.of_mem_zip (show (y.1, y.2) ∈ ps.zip us from hy)).1
    exact hp.imp id fun c => ⟨c, PySem.W.cellsFrom_some _ _ _ (.inl c)⟩
  · cases he
    refine ⟨(e0.mod.nolimit.keeps fun _ _ => inS).keeps x.toInCall.keep, codeAny_func ?_⟩
    obtain ⟨t, run, start_⟩ := hbody A outer s H vs Q E (room.deeper _) (by exact hg) h
    have I : Inv (cxOf CX0 P w K mg base N qual scope f cdv A outer s H E) [] (start N vs) H s1 := inv_start S room.hd e0 (len _ _ _ _ h) vals x
    refine wpAny_mono (run.nox.run [] s1 (start N vs) H _ I start_) (fun fl s2 z => ?_) fun _ _ z => z
    cases fl with
    | ret u =>
      obtain ⟨v, σ', H', J, rv, qv⟩ := z
      exact ⟨v, H', J.os, J.bare, J.base, J.hok, rv, qv⟩
    | next =>
      obtain ⟨σ', H', J, qv⟩ := z
      exact ⟨.non, H', J.os, J.bare, J.base, J.hok, rfl, qv⟩
    | brk => exact z.choose_spec.choose_spec.2.elim
    | cont => exact z.choose_spec.choose_spec.2.elim
end
end DD
set_option Elab.async false
set_option linter.all false
set_option maxRecDepth 100000
set_option maxHeartbeats 2000000
namespace DD
open PySem PySem.Spec PyProof.Rows L2
abbrev Blk := Int × Int × Bool
/-- the word of a block: private or busy -/
def wd (b : Bool) : Str := if b = true then "private" else "busy"
def IsBk (h : Heap) (v : Value) (m : Blk) : Prop := ∃ a o t u z n, v = .ref a ∧ h.get? a = some o ∧ o.cls = .type "tuple" ∧ o.data = .seq #[.int m.1 t, .int m.2.1 u, .str (wd m.2.2) z] n
theorem IsBk.keeps {h h' : Heap} {v : Value} {m : Blk} (p : IsBk h v m) (k : ∀ b o, h.get? b = some o → o.cls = .type "tuple" → h'.get? b = some o) : IsBk h' v m := by
  obtain ⟨a, o, t, u, z, n, e, ho, hc, hd⟩ := p
  exact ⟨a, o, t, u, z, n, e, k _ _ ho hc, hc, hd⟩
end DD
set_option Elab.async false
set_option linter.all false
set_option maxRecDepth 100000
set_option maxHeartbeats 2000000
namespace DD
open PySem PySem.Spec PyProof.Rows L2
end DD
set_option Elab.async false
set_option linter.all false
set_option maxRecDepth 100000
set_option maxHeartbeats 2000000
namespace DD
open PySem PySem.Spec PyProof.Rows L2
end DD
set_option Elab.async false
set_option linter.all false
set_option maxRecDepth 100000
set_option maxHeartbeats 2000000
namespace DD
open PySem PySem.Spec PyProof.Rows L2
end DD
set_option Elab.async false
set_option linter.all false
set_option maxRecDepth 100000
set_option maxHeartbeats 2000000
namespace DD
open PySem PySem.Spec PyProof.Rows L2
section
variable {X : Cx}
def rLtD (K : PySem.W.Frag) : R2 := fun x y H Q => ∃ d e, Dp K H x d ∧ Dp K H y e ∧ PySem.W.alike d e = true ∧ d ≠ .none ∧ min d.depth e.depth ≤ 60 ∧ Q (.bl (PySem.W.dataLt d e)) H
theorem op_ltD (hu : X.A.units + 64 < cLine) : OpR X (compareOp .Lt) (rLtD X.K) := by
  intro pins s σ H x y v u Q I rx ry h
  obtain ⟨d, e, hd, he, ha, hn, hp, q⟩ := h
  obtain ⟨as, r1⟩ := Dp.reads I d x v hd rx
  obtain ⟨bs, r2⟩ := Dp.reads I e y u he ry
  show wpAny _ _ (richCompare .Lt v u) _ _ _
  exact PySem.W.rcLt_alike d e X.A s v u as bs r1 r2 ha hn (by omega) X.prog X.w _ _ ⟨.bl _, H, I, rfl, q⟩
end
end DD
set_option Elab.async false
set_option linter.all false
set_option maxRecDepth 100000
set_option maxHeartbeats 2000000
namespace DL
open PySem PySem.Spec PyProof.Rows L2 DD
/-- what an expression hands on: data, an owner's slot, a new owned thing -/
inductive X where
  | val (d : D) | own (i : Nat) | new (o : O)
def X.settle : X → X
  | .new o => .val o.d
  | x => x
def Slot.dd : Slot → Option D
  | .val d => some d
  | .own o | .bor o | .lck o => some o.d
  | .none => Option.none
def deref (ρ : En) : X → Option D
  | .val d => some d
  | .new o => some o.d
  | .own i => ρ[i]?.bind Slot.dd
/-- as frozen data -/
def toVal (ρ : En) : X → Option (D × En)
  | .val d => some (d, ρ)
  | .new o => some (o.d, ρ)
  | .own i => match ρ[i]? with
    | some (.val d) => some (d, ρ)
    | some (.own o) => some (o.d, ρ.set i (.val o.d))
    | _ => none
structure Xc where
  cls : Value
  ks : List Str
  ds : List D
inductive Res (α : Type) where
  | ok (a : α) (ρ : En) | err (x : Xc) (ρ : En) | stuck
def Res.bind {α β : Type} : Res α → (α → En → Res β) → Res β
  | .ok a ρ, U => U a ρ
  | .err x ρ, _ => .err x ρ
  | .stuck, _ => .stuck
def lift {α : Type} (o : Option α) (ρ : En) : Res α := match o with
  | some a => .ok a ρ
  | none => .stuck
def RepX (K : Fg) (F : Fm) (G H : Hp) (σ : L2.St) (ρ : En) (v : V) : X → Prop
  | .val d => Rep K G v d
  | .own i => σ[i]? = some (some v)
  | .new o => ∃ a, v = .ref a ∧ F.H0 a = none ∧ G a = none ∧ ObjO K G H a o ∧ ∀ (j : Nat) (u : O), ρ[j]? = some (.own u) → σ[j]? ≠ some (some (.ref a))
/-- a value that is read: frozen, or owned by someone -/
def DRep (K : Fg) (G H : Hp) (v : V) (d : D) : Prop := Rep K G v d ∨ ∃ a o, v = .ref a ∧ d = O.d o ∧ ObjO K G H a o
inductive DRepA (K : Fg) (G H : Hp) : List V → List D → Prop
  | nil : DRepA K G H [] []
  | cons {v : V} {vs : List V} {d : D} {ds : List D} : DRep K G H v d → DRepA K G H vs ds → DRepA K G H (v :: vs) (d :: ds)
inductive RepXs (K : Fg) (F : Fm) (G H : Hp) (σ : L2.St) (ρ : En) : List V → List X → Prop
  | nil : RepXs K F G H σ ρ [] []
  | cons {v : V} {vs : List V} {x : X} {xs : List X} : RepX K F G H σ ρ v x → (∀ o, x ≠ .new o) → RepXs K F G H σ ρ vs xs → RepXs K F G H σ ρ (v :: vs) (x :: xs)
def XRep (K : Fg) (G H : Hp) (c : Value) (od : Option Addr) (x : Xc) : Prop := c = x.cls ∧ ((od = none ∧ x.ks = []) ∨ ∃ e fs, od = some e ∧ G e = some (.xd fs) ∧ fs.map (·.1) = x.ks ∧ RepA K G (fs.map (·.2)) x.ds)
section
variable {K : Fg} {F : Fm} {G G' H H' : Hp} {σ σ' : L2.St} {ρ ρ' : En} {v : V} {x : X} {d : D}
/-- a settled thing stays -/
theorem RepX.keep (h : RepX K F G H σ ρ v x) (n : ∀ o, x ≠ .new o) (e : Same G G') : RepX K F G' H' σ ρ' v x := by
  cases x with
  | val d => exact Rep.mono e h
  | own i => exact h
  | new o => exact absurd rfl (n o)
theorem settle_no : ∀ o, x.settle ≠ .new o := by
  intro o
  cases x <;> intro z <;> cases z
theorem ObjO.rep {a : Addr} {o : O} (h : ObjO K G H a o) : ∃ u, H a = some u ∧ ∀ G', Same G G' → G' a = some u → Rep K G' (.ref a) o.d := by
  cases o with
  | lst ds =>
    obtain ⟨vs, h1, h2⟩ := h
    exact ⟨_, h1, fun G' e g => .lst g (h2.mono e)⟩
  | ins C ks ds =>
    obtain ⟨dx, fs, h1, h2, h3⟩ := h
    exact ⟨_, h1, fun G' e g => .ins g h2 (h3.mono e)⟩
theorem Rl.settle (R : Rl K F G H σ ρ) (h : RepX K F G H σ ρ v x) : ∃ G', Rl K F G' H σ ρ ∧ Same G G' ∧ RepX K F G' H σ ρ v x.settle := by
  cases x with
  | val d => exact ⟨G, R, Same.refl G, h⟩
  | own i => exact ⟨G, R, Same.refl G, h⟩
  | new o =>
    obtain ⟨a, rfl, h0, hg, ho, n⟩ := h
    obtain ⟨u, hu, r⟩ := ho.rep
    exact ⟨upd G a u, R.frz hu h0 hg n (ho.usual hu).1, smNew hg, r _ (smNew hg) upd_same⟩
/-- the owner of slot i gives its thing up -/
theorem Rl.give {i : Nat} {o : O} (R : Rl K F G H σ ρ) (h : ρ[i]? = some (.own o)) : ∃ G' a, σ[i]? = some (some (.ref a)) ∧ Rl K F G' H σ (ρ.set i (.val o.d)) ∧ Same G G' ∧ Rep K G' (.ref a) o.d := by
  obtain ⟨a, hv, h0, hg, ho⟩ := R.own h
  obtain ⟨u, hu, r⟩ := ho.rep
  have hil : i < ρ.length := (List.getElem?_eq_some_iff.mp h).1
  have hf : freeAt ρ i = true := by unfold freeAt; rw [h]; rfl
  have R1 : Rl K F G H (σ.set i (some (.ref a))) (ρ.set i .none) := R.forget hf
  have eσ : σ.set i (some (.ref a)) = σ := by
    apply List.ext_getElem?
    intro j
    by_cases e : i = j
    · subst e
      rw [List.getElem?_set_self (R.lt hil), hv]
    · rw [List.getElem?_set_ne e]
  rw [eσ] at R1
  have n : ∀ (j : Nat) (u : O), (ρ.set i Slot.none)[j]? = some (.own u) → σ[j]? ≠ some (some (.ref a)) := fun j u hj z => by
    rcases getset hj with ⟨_, e, _⟩ | ⟨ne, hj⟩
    · cases e
    · exact ne (R.di i j _ _ a h hj hv z)
  have R2 := R1.frz hu h0 hg n (ho.usual hu).1
  have rp := r _ (smNew (o := u) hg) upd_same
  have R3 := R2.put (i := i) (v := .ref a) (s := .val o.d) (by unfold freeAt; rw [List.getElem?_set_self hil]; rfl) ⟨_, rfl, rp⟩ rfl (fun o e => by cases e)
  rw [eσ, List.set_set] at R3
  exact ⟨_, a, hv, R3, smNew hg, rp⟩
theorem Rl.toVal (R : Rl K F G H σ ρ) (h : RepX K F G H σ ρ v x) (e : toVal ρ x = some (d, ρ')) : ∃ G', Rl K F G' H σ ρ' ∧ Same G G' ∧ Rep K G' v d := by
  cases x with
  | val d' =>
    cases e
    exact ⟨G, R, Same.refl G, h⟩
  | new o =>
    cases e
    obtain ⟨G', R', s, r⟩ := R.settle h
    exact ⟨G', R', s, r⟩
  | own i =>
    simp only [DL.toVal] at e
    cases e2 : ρ[i]? with
    | none => rw [e2] at e; cases e
    | some s =>
      rw [e2] at e
      cases s with
      | val d' =>
        cases e
        obtain ⟨v', h1, h2⟩ := R.val e2
        rw [show σ[i]? = some (some v) from h] at h1
        cases h1
        exact ⟨G, R, Same.refl G, h2⟩
      | own o =>
        cases e
        obtain ⟨G', a, h1, R', s, r⟩ := R.give e2
        rw [show σ[i]? = some (some v) from h] at h1
        cases h1
        exact ⟨G', R', s, r⟩
      | none => cases e
      | bor o => cases e
      | lck o => cases e
theorem Rl.deref (R : Rl K F G H σ ρ) (h : RepX K F G H σ ρ v x) (e : deref ρ x = some d) : DRep K G H v d := by
  cases x with
  | val d' => cases e; exact .inl h
  | new o =>
    cases e
    obtain ⟨a, rfl, _, _, ho, _⟩ := h
    exact .inr ⟨a, o, rfl, rfl, ho⟩
  | own i =>
    simp only [DL.deref] at e
    cases e2 : ρ[i]? with
    | none => rw [e2] at e; cases e
    | some s =>
      rw [e2] at e
      obtain ⟨x, h1, h2⟩ := R.sl i s e2
      rw [show σ[i]? = some (some v) from h] at h1
      cases h1
      cases s with
      | none => cases e
      | val d' =>
        cases e
        obtain ⟨v', e3, h3⟩ := h2
        cases e3
        exact .inl h3
      | own o =>
        cases e
        obtain ⟨a, e3, _, _, h3⟩ := h2
        cases e3
        exact .inr ⟨a, o, rfl, rfl, h3⟩
      | bor o =>
        cases e
        obtain ⟨a, e3, _, _, h3⟩ := h2
        cases e3
        exact .inr ⟨a, o, rfl, rfl, h3⟩
      | lck o =>
        cases e
        obtain ⟨a, u, e3, _, _, _, _, h3⟩ := h2
        cases e3
        exact .inr ⟨a, o, rfl, rfl, h3⟩
theorem DRep.rep (e : Same G H) (h : DRep K G H v d) : Rep K H v d := by
  rcases h with h | ⟨a, o, rfl, rfl, h⟩
  · exact h.mono e
  · obtain ⟨u, hu, r⟩ := h.rep
    exact r H e hu
theorem DRep.non (h : DRep K G H v .non) : v = .non := by
  rcases h with h | ⟨a, o, rfl, e, _⟩
  · cases h; rfl
  · cases o <;> cases e
theorem DRep.bl {b : Bool} (h : DRep K G H v (.bl b)) : v = .bl b := by
  rcases h with h | ⟨a, o, rfl, e, _⟩
  · cases h; rfl
  · cases o <;> cases e
theorem DRep.int {i : Int} (h : DRep K G H v (.int i)) : v = .int i := by
  rcases h with h | ⟨a, o, rfl, e, _⟩
  · cases h; rfl
  · cases o <;> cases e
theorem DRep.str {z : Str} (h : DRep K G H v (.str z)) : v = .str z := by
  rcases h with h | ⟨a, o, rfl, e, _⟩
  · cases h; rfl
  · cases o <;> cases e
theorem DRep.tup {ds : List D} (e : Same G H) (h : DRep K G H v (.tup ds)) : ∃ a vs, v = .ref a ∧ SqT K G a vs ∧ SqT K H a vs ∧ RepA K G vs ds := by
  rcases h with h | ⟨a, o, rfl, e, _⟩
  · cases h with
    | tup h1 h2 => exact ⟨_, _, rfl, h1, smTup e h1, h2⟩
  · cases o <;> cases e
theorem DRep.lst {ds : List D} (e : Same G H) (h : DRep K G H v (.lst ds)) : ∃ a vs, v = .ref a ∧ H a = some (.lst vs) ∧ RepA K G vs ds := by
  rcases h with h | ⟨a, o, rfl, e2, h⟩
  · cases h with
    | lst h1 h2 => exact ⟨_, _, rfl, e _ _ h1, h2⟩
  · cases o with
    | lst ds' =>
      cases e2
      obtain ⟨vs, h1, h2⟩ := h
      exact ⟨a, vs, rfl, h1, h2⟩
    | ins C ks ds' => cases e2
theorem DRep.scr {ds : List D} (e : Same G H) (h : DRep K G H v (.scr ds)) : ∃ a vs, v = .ref a ∧ SqL K H a vs ∧ RepA K G vs ds := by
  rcases h with h | ⟨a, o, rfl, e2, h⟩
  · cases h with
    | scr h1 h2 => exact ⟨_, _, rfl, smLst e h1, h2⟩
  · cases o <;> cases e2
theorem DRep.ins {C : Addr} {ks : List Str} {ds : List D} (e : Same G H) (h : DRep K G H v (.ins C ks ds)) : ∃ a dx fs, v = .ref a ∧ H a = some (.ins C dx fs) ∧ fs.map (·.1) = ks ∧ RepA K G (fs.map (·.2)) ds := by
  rcases h with h | ⟨a, o, rfl, e2, h⟩
  · cases h with
    | ins h1 h2 h3 => exact ⟨_, _, _, rfl, e _ _ h1, h2, h3⟩
  · cases o with
    | lst ds' => cases e2
    | ins C' ks' ds' =>
      cases e2
      obtain ⟨dx, fs, h1, h2, h3⟩ := h
      exact ⟨a, dx, fs, rfl, h1, h2, h3⟩
end
abbrev Rel (β α : Type) := Fm → Hp → Hp → L2.St → En → β → α → Prop
def Wants {α β : Type} (K : Fg) (E : XK) (rel : Rel β α) (F : Fm) (G : Hp) (σ : L2.St) (Q : β → Hp → Prop) : Res α → Prop
  | .ok a ρ' => ∀ b G' H', Rl K F G' H' σ ρ' → Same G G' → rel F G' H' σ ρ' b a → Q b H'
  | .err x ρ' => ∀ c od G' H', Rl K F G' H' σ ρ' → Same G G' → XRep K G' H' c od x → E c od H'
  | .stuck => False
def LG {α β : Type} (K : Fg) (E : XK) (rel : Rel β α) (t : L2.St → Hp → (β → Hp → Prop) → Prop) (T : En → Res α) : Prop :=
  ∀ (F : Fm) (G H : Hp) (σ : L2.St) (ρ : En) (Q : β → Hp → Prop), Rl K F G H σ ρ → Wants K E rel F G σ Q (T ρ) → t σ H Q
abbrev LE (K : Fg) (E : XK) (t : TE) (T : En → Res X) : Prop := LG K E (RepX K) t T
abbrev LA (K : Fg) (E : XK) (t : TA) (T : En → Res (List X)) : Prop := LG K E (RepXs K) t T
abbrev LT (K : Fg) (E : XK) (t : TT) (T : En → Res Bool) : Prop := LG K E (fun _ _ _ _ _ b a => b = a) t T
section
variable {α β γ δ : Type} {K : Fg} {E : XK} {F : Fm} {G G' H H' : Hp} {σ : L2.St} {ρ ρ' : En}
theorem Wants.mono {rel : Rel β α} {Q : β → Hp → Prop} {r : Res α} (e : Same G G') (h : Wants K E rel F G σ Q r) : Wants K E rel F G' σ Q r := by
  cases r with
  | ok a ρ' => exact fun b G2 H2 R s q => h b G2 H2 R (e.trans s) q
  | err x ρ' => exact fun c od G2 H2 R s q => h c od G2 H2 R (e.trans s) q
  | stuck => exact h
theorem Wants.bind {rel : Rel β α} {rel2 : Rel δ γ} {Q : δ → Hp → Prop} {Q1 : β → Hp → Prop} {r : Res α} {U : α → En → Res γ} (h : Wants K E rel2 F G σ Q (r.bind U))
    (k : ∀ b a G' H' ρ', Rl K F G' H' σ ρ' → Same G G' → rel F G' H' σ ρ' b a → Wants K E rel2 F G' σ Q (U a ρ') → Q1 b H') : Wants K E rel F G σ Q1 r := by
  cases r with
  | ok a ρ' => exact fun b G2 H2 R s q => k b a G2 H2 ρ' R s q (Wants.mono s h)
  | err x ρ' => exact h
  | stuck => exact h
theorem LG.bind {rel : Rel β α} {rel2 : Rel δ γ} {t : L2.St → Hp → (β → Hp → Prop) → Prop} {T : En → Res α} {k : β → L2.St → Hp → (δ → Hp → Prop) → Prop} {U : α → En → Res γ} (h : LG K E rel t T)
    (h2 : ∀ F G H σ ρ b a Q, Rl K F G H σ ρ → rel F G H σ ρ b a → Wants K E rel2 F G σ Q (U a ρ) → k b σ H Q) : LG K E rel2 (fun σ H Q => t σ H fun b H1 => k b σ H1 Q) (fun ρ => (T ρ).bind U) := by
  intro F G H σ ρ Q R w
  exact h F G H σ ρ _ R (w.bind fun b a G' H' ρ' R' s q w' => h2 F G' H' σ ρ' b a Q R' q w')
/-- what ends here -/
theorem Wants.lift {rel : Rel β α} {Q : β → Hp → Prop} {o : Option α} (h : Wants K E rel F G σ Q (lift o ρ)) : ∃ a, o = some a ∧ ∀ b G' H', Rl K F G' H' σ ρ → Same G G' → rel F G' H' σ ρ b a → Q b H' := by
  cases o with
  | none => exact h.elim
  | some a => exact ⟨a, rfl, h⟩
end
def dVar (i : Nat) : En → Res X := fun ρ => match ρ[i]? with
  | some (.val d) => .ok (.val d) ρ
  | some (.own _) | some (.bor _) | some (.lck _) => .ok (.own i) ρ
  | _ => .stuck
def dC (d : D) : En → Res X := fun ρ => .ok (.val d) ρ
section
variable {K : Fg} {E : XK}
theorem L_var {i : Nat} : LE K E (tVar i) (dVar i) := by
  intro F G H σ ρ Q R w
  unfold dVar at w
  cases e : ρ[i]? with
  | none => rw [e] at w; exact w.elim
  | some s =>
    rw [e] at w
    cases s with
    | none => exact w.elim
    | val d =>
      obtain ⟨v, h1, h2⟩ := R.val e
      exact ⟨v, h1, w v G H R (Same.refl G) h2⟩
    | own o =>
      obtain ⟨a, h1, _⟩ := R.own e
      exact ⟨_, h1, w _ G H R (Same.refl G) h1⟩
    | bor o =>
      obtain ⟨a, h1, _⟩ := R.bor e
      exact ⟨_, h1, w _ G H R (Same.refl G) h1⟩
    | lck o =>
      obtain ⟨x, h1, a, u, rfl, _⟩ := R.sl i _ e
      exact ⟨_, h1, w _ G H R (Same.refl G) h1⟩
theorem L_c {v : V} {d : D} (h : ∀ G, Rep K G v d) : LE K E (tC v) (dC d) := fun F G H σ ρ Q R w => w v G H R (Same.refl G) (h G)
theorem L_int {i : Int} : LE K E (tC (.int i)) (dC (.int i)) := L_c fun _ => .int i
theorem L_bl {b : Bool} : LE K E (tC (.bl b)) (dC (.bl b)) := L_c fun _ => .bl b
theorem L_str {z : Str} : LE K E (tC (.str z)) (dC (.str z)) := L_c fun _ => .str z
theorem L_non : LE K E (tC .non) (dC .non) := L_c fun _ => .non
end
abbrev D2 := D → D → Option X
def OpS (K : Fg) (r : R2) (op : D2) : Prop := ∀ (F : Fm) (G H : Hp) (σ : L2.St) (ρ : En) (x y : V) (d e : D) (z : X) (Q : VK), Rl K F G H σ ρ → DRep K G H x d → DRep K G H y e → op d e = some z →
  (∀ v G' H', Rl K F G' H' σ ρ → Same G G' → RepX K F G' H' σ ρ v z → Q v H') → r x y H Q
@[simp] def ap2 (op : D2) (a b : X) (ρ : En) : Res X := match deref ρ a, deref ρ b with
  | some d, some e => lift (op d e) ρ
  | _, _ => .stuck
def dBin (op : D2) (A B : En → Res X) : En → Res X := fun ρ => (A ρ).bind fun a ρ1 => (B ρ1).bind fun b ρ2 => ap2 op a.settle b ρ2
section
variable {K : Fg} {E : XK} {r r' : R2} {op op' : D2} {ta tb tc : TE} {A B C : En → Res X}
theorem ap2_run {F : Fm} {G H : Hp} {σ : L2.St} {ρ : En} {Q : VK} {x y : V} {a b : X} (hr : OpS K r op) (R : Rl K F G H σ ρ) (hx : RepX K F G H σ ρ x a) (hy : RepX K F G H σ ρ y b) (w : Wants K E (RepX K) F G σ Q (ap2 op a b ρ)) : r x y H Q := by
  unfold ap2 at w
  cases e1 : deref ρ a with
  | none => rw [e1] at w; exact w.elim
  | some d =>
    cases e2 : deref ρ b with
    | none => rw [e1, e2] at w; exact w.elim
    | some e =>
      rw [e1, e2] at w
      obtain ⟨z, ez, q⟩ := w.lift
      exact hr F G H σ ρ x y d e z Q R (R.deref hx e1) (R.deref hy e2) ez q
theorem L_bin (hr : OpS K r op) (ha : LE K E ta A) (hb : LE K E tb B) : LE K E (tOp r ta tb) (dBin op A B) := by
  refine LG.bind (k := fun x σ H Q => tb σ H fun y H2 => r x y H2 Q) ha fun F G H σ ρ x a Q R hx w => ?_
  obtain ⟨G1, R1, s1, hx1⟩ := R.settle hx
  refine hb F G1 H σ ρ _ R1 ((w.mono s1).bind fun y b G2 H2 ρ2 R2 s2 hy w2 => ?_)
  exact ap2_run hr R2 (hx1.keep settle_no s2) hy w2
@[simp] def opI (g : Int → Int → D) : D2
  | .int i, .int j => some (.val (g i j))
  | _, _ => none
open Classical in
@[simp] noncomputable def opIC (C : Int → Int → Prop) (g : Int → Int → D) : D2
  | .int i, .int j => if C i j then some (.val (g i j)) else none
  | _, _ => none
theorem S_I0 {g : Int → Int → V} {g' : Int → Int → D} (hg : ∀ i j G, Rep K G (g i j) (g' i j)) : OpS K (rI0 g) (opI g') := by
  intro F G H σ ρ x y d e z Q R hx hy ez q
  cases d <;> cases e <;> first | cases ez | skip
  exact ⟨_, _, hx.int, hy.int, q _ G H R (Same.refl G) (hg _ _ G)⟩
theorem S_IC {C : Int → Int → Prop} {g : Int → Int → V} {g' : Int → Int → D} (hg : ∀ i j G, Rep K G (g i j) (g' i j)) : OpS K (rI C g) (opIC C g') := by
  intro F G H σ ρ x y d e z Q R hx hy ez q
  cases d <;> cases e <;> first | cases ez | skip
  simp only [opIC] at ez
  split at ez
  · rename_i hc
    cases ez
    exact ⟨_, _, hx.int, hy.int, hc, q _ G H R (Same.refl G) (hg _ _ G)⟩
  · cases ez
end
end DL
set_option Elab.async false
set_option linter.all false
set_option maxRecDepth 100000
set_option maxHeartbeats 2000000
namespace DL
open PySem PySem.Spec PyProof.Rows L2 DD
mutual
def D.py : D → Option PyData
  | .non => some .none
  | .bl b => some (.bool b)
  | .int i => some (.int i)
  | .str x => some (.str x)
  | .tup ds => (D.pyA ds).map PyData.tuple
  | .lst ds => (D.pyA ds).map PyData.list
  | .scr ds => (D.pyA ds).map PyData.list
  | .ins .. | .cls _ => none
def D.pyA : List D → Option (List PyData)
  | [] => some []
  | d :: ds => match D.py d, D.pyA ds with
    | some p, some ps => some (p :: ps)
    | _, _ => none
end
theorem pyA_cons {d : D} {ds : List D} {ps : List PyData} (h : D.pyA (d :: ds) = some ps) : ∃ p r, ps = p :: r ∧ d.py = some p ∧ D.pyA ds = some r := by
  simp only [D.pyA] at h
  cases e1 : d.py with
  | none => rw [e1] at h; cases h
  | some p =>
    cases e2 : D.pyA ds with
    | none => rw [e1, e2] at h; cases h
    | some r => rw [e1, e2] at h; cases h; exact ⟨p, r, rfl, rfl, rfl⟩
section
variable {K : Fg} {H : Hp}
mutual
theorem Rep.dp : ∀ {v : V} {d : D} {p : PyData}, Rep K H v d → d.py = some p → Dp K H v p
  | _, _, _, .non, e => by cases e; exact .non
  | _, _, _, .bl b, e => by cases e; exact .bl b
  | _, _, _, .int i, e => by cases e; exact .int i
  | _, _, _, .str x, e => by cases e; exact .str x
  | _, .tup ds, _, .tup h r, e => by
    simp only [D.py] at e
    cases e2 : D.pyA ds with
    | none => rw [e2] at e; cases e
    | some ps => rw [e2] at e; cases e; exact .tup h (RepA.dp r e2)
  | _, .lst ds, _, .lst h r, e => by
    simp only [D.py] at e
    cases e2 : D.pyA ds with
    | none => rw [e2] at e; cases e
    | some ps => rw [e2] at e; cases e; exact .lst (.inl (.inl h)) (RepA.dp r e2)
  | _, .scr ds, _, .scr h r, e => by
    simp only [D.py] at e
    cases e2 : D.pyA ds with
    | none => rw [e2] at e; cases e
    | some ps => rw [e2] at e; cases e; exact .lst h (RepA.dp r e2)
  | _, _, _, .ins _ _ _, e => by cases e
  | _, _, _, .cls _, e => by cases e
theorem RepA.dp : ∀ {vs : List V} {ds : List D} {ps : List PyData}, RepA K H vs ds → D.pyA ds = some ps → DpAll K H vs ps
  | _, _, _, .nil, e => by cases e; exact .nil
  | _, d :: ds, _, .cons h r, e => by
    obtain ⟨p, r', rfl, e1, e2⟩ := pyA_cons e
    exact .cons (Rep.dp h e1) (RepA.dp r e2)
end
end
section
variable {K : Fg}
theorem S_add : OpS K (rI0 fun i j => .int (i + j)) (opI fun i j => .int (i + j)) := S_I0 fun _ _ _ => .int _
theorem S_sub : OpS K (rI0 fun i j => .int (i - j)) (opI fun i j => .int (i - j)) := S_I0 fun _ _ _ => .int _
theorem S_mul : OpS K (rI CMul fun i j => .int (i * j)) (opIC CMul fun i j => .int (i * j)) := S_IC fun _ _ _ => .int _
theorem S_fdiv : OpS K (rI CDiv fun i j => .int (i / j)) (opIC CDiv fun i j => .int (i / j)) := S_IC fun _ _ _ => .int _
theorem S_mod : OpS K (rI (fun _ j => 0 < j) fun i j => .int (i % j)) (opIC (fun _ j => 0 < j) fun i j => .int (i % j)) := S_IC fun _ _ _ => .int _
theorem S_pow : OpS K (rI CPow fun i j => .int (i ^ j.toNat)) (opIC CPow fun i j => .int (i ^ j.toNat)) := S_IC fun _ _ _ => .int _
theorem S_lt : OpS K (rI0 fun i j => .bl (decide (i < j))) (opI fun i j => .bl (decide (i < j))) := S_I0 fun _ _ _ => .bl _
theorem S_gt : OpS K (rI0 fun i j => .bl (decide (j < i))) (opI fun i j => .bl (decide (j < i))) := S_I0 fun _ _ _ => .bl _
theorem S_ge : OpS K (rI0 fun i j => .bl (decide (j ≤ i))) (opI fun i j => .bl (decide (j ≤ i))) := S_I0 fun _ _ _ => .bl _
def rAddS : R2 := fun x y H Q => ∃ i j, x = .str i ∧ y = .str j ∧ i.length + j.length ≤ sizeLine ∧ Q (.str (i ++ j)) H
def opAddS : D2
  | .str i, .str j => if i.length + j.length ≤ sizeLine then some (.val (.str (i ++ j))) else none
  | _, _ => none
theorem S_addS : OpS K rAddS opAddS := by
  intro F G H σ ρ x y d e z Q R hx hy ez q
  cases d <;> cases e <;> first | cases ez | skip
  simp only [opAddS] at ez
  split at ez
  · rename_i hc
    cases ez
    exact ⟨_, _, hx.str, hy.str, hc, q _ G H R (Same.refl G) (.str _)⟩
  · cases ez
def opAddT : D2
  | .tup ds, .tup es => if ds.length + es.length ≤ sizeLine then some (.val (.tup (ds ++ es))) else none
  | _, _ => none
theorem S_addT : OpS K (rCatA K) opAddT := by
  intro F G H σ ρ x y d e z Q R hx hy ez q
  cases d <;> cases e <;> first | cases ez | skip
  rename_i ds es
  simp only [opAddT] at ez
  split at ez
  · rename_i hc
    cases ez
    obtain ⟨a, xs, rfl, g1, h1, r1⟩ := hx.tup R.gh
    obtain ⟨b, ys, rfl, g2, h2, r2⟩ := hy.tup R.gh
    refine ⟨a, b, xs, ys, rfl, rfl, h1, h2, by rw [r1.len, r2.len]; exact hc, fun e => ?_, fun _ e => ?_, fun _ _ p np => ?_⟩
    · subst e
      cases r1
      exact q _ G H R (Same.refl G) (.tup g2 r2)
    · subst e
      cases r2
      rw [List.append_nil] at q
      exact q _ G H R (Same.refl G) (.tup g1 r1)
    · have gp := R.freshG np
      exact q _ _ _ (R.add np) (smNew gp) (.tup (.inl (.inl upd_same)) ((r1.app r2).mono (smNew gp)))
  · cases ez
/-- a new list -/
theorem newL {F : Fm} {G H : Hp} {σ : L2.St} {ρ : En} {p : Addr} {vs : List V} {ds : List D} (R : Rl K F G H σ ρ) (np : H p = none) (r : RepA K G vs ds) : Rl K F G (upd H p (.lst vs)) σ ρ ∧ RepX K F G (upd H p (.lst vs)) σ ρ (.ref p) (.new (.lst ds)) := by
  refine ⟨R.laid np, p, rfl, R.fresh np, R.freshG np, ⟨vs, upd_same, r⟩, fun j u hj z => ?_⟩
  obtain ⟨b, h1, _, _, h4⟩ := R.own hj
  rw [h1] at z
  cases z
  obtain ⟨u, e⟩ := h4.ex
  rw [np] at e
  cases e
theorem newT {F : Fm} {G H : Hp} {σ : L2.St} {ρ : En} {p : Addr} {vs : List V} {ds : List D} (R : Rl K F G H σ ρ) (np : H p = none) (r : RepA K G vs ds) : Rl K F (upd G p (.tup vs)) (upd H p (.tup vs)) σ ρ ∧ Same G (upd G p (.tup vs)) ∧ Rep K (upd G p (.tup vs)) (.ref p) (.tup ds) :=
  ⟨R.add np, smNew (R.freshG np), .tup (.inl (.inl upd_same)) (r.mono (smNew (R.freshG np)))⟩
def opAddL : D2
  | .lst ds, .lst es => if ds.length + es.length ≤ sizeLine then some (.new (.lst (ds ++ es))) else none
  | _, _ => none
theorem S_addL : OpS K rCat opAddL := by
  intro F G H σ ρ x y d e z Q R hx hy ez q
  cases d <;> cases e <;> first | cases ez | skip
  rename_i ds es
  simp only [opAddL] at ez
  split at ez
  · rename_i hc
    cases ez
    obtain ⟨a, xs, rfl, h1, r1⟩ := hx.lst R.gh
    obtain ⟨b, ys, rfl, h2, r2⟩ := hy.lst R.gh
    refine ⟨a, b, xs, ys, rfl, rfl, h1, h2, by rw [r1.len, r2.len]; exact hc, fun p np => ?_⟩
    obtain ⟨R', x'⟩ := newL R np (r1.app r2)
    exact q _ _ _ R' (Same.refl G) x'
  · cases ez
def rAdd4 (K : Fg) : R2 := fun x y H Q => rI0 (fun i j => .int (i + j)) x y H Q ∨ rAddS x y H Q ∨ rCatA K x y H Q ∨ rCat x y H Q
@[simp] def opAdd : D2
  | .int i, .int j => some (.val (.int (i + j)))
  | .str i, .str j => if i.length + j.length ≤ sizeLine then some (.val (.str (i ++ j))) else none
  | .tup ds, .tup es => if ds.length + es.length ≤ sizeLine then some (.val (.tup (ds ++ es))) else none
  | .lst ds, .lst es => if ds.length + es.length ≤ sizeLine then some (.new (.lst (ds ++ es))) else none
  | _, _ => none
theorem S_add4 : OpS K (rAdd4 K) opAdd := by
  intro F G H σ ρ x y d e z Q R hx hy ez q
  cases d <;> cases e <;> first | cases ez | skip
  · exact .inl (S_add F G H σ ρ x y _ _ _ Q R hx hy rfl q)
  · exact .inr (.inl (S_addS F G H σ ρ x y _ _ _ Q R hx hy ez q))
  · exact .inr (.inr (.inl (S_addT F G H σ ρ x y _ _ _ Q R hx hy ez q)))
  · exact .inr (.inr (.inr (S_addL F G H σ ρ x y _ _ _ Q R hx hy ez q)))
end
theorem OpRor {X : Cx} {f : Value → Value → Sem Value} {r r' : R2} (h : OpR X f r) (h' : OpR X f r') : OpR X f (fun x y H Q => r x y H Q ∨ r' x y H Q) := by
  intro pins s σ H x y v u Q I rx ry q
  rcases q with q | q
  · exact h pins s σ H x y v u Q I rx ry q
  · exact h' pins s σ H x y v u Q I rx ry q
theorem op_add4 {X : Cx} {K : Fg} (h : X.K = K := by rfl) : OpR X (binaryOp .Add) (rAdd4 K) := h ▸ OpRor op_add (OpRor op_add_str (OpRor op_catA op_cat))
section
variable {K : Fg}
/-- == -/
def eqB : D → D → Option Bool
  | .str x, .str y => some (decide (x = y))
  | .int x, .int y => some (decide (x = y))
  | .bl x, .bl y => some (decide (x = y))
  | .non, .non => some true
  | d, e => match d.py, e.py with
    | some p, some q => if SeqAt.shaped p = true ∧ SeqAt.shaped q = true then some (PyData.eqv p q) else none
    | _, _ => match d, e with
      | .lst ds, .lst es => if ds.length = es.length then none else some false
      | _, _ => none
@[simp] def opEq : D2 := fun d e => (eqB d e).map fun b => .val (.bl b)
@[simp] def opNe : D2 := fun d e => (eqB d e).map fun b => .val (.bl !b)
def rEqL (K : Fg) : R2 := fun x y H Q => ∃ a b xs ys, x = .ref a ∧ y = .ref b ∧ SqL K H a xs ∧ SqL K H b ys ∧ xs.length ≠ ys.length ∧ Q (.bl false) H
def rNeL (K : Fg) : R2 := fun x y H Q => ∃ a b xs ys, x = .ref a ∧ y = .ref b ∧ SqL K H a xs ∧ SqL K H b ys ∧ xs.length ≠ ys.length ∧ Q (.bl true) H
theorem isL_of {h : Heap} {a : Addr} {vs : Array Value} (p : PlainL h a vs) : h.IsList a vs := by
  obtain ⟨o, n, h1, h2, h3, h4⟩ := p
  exact ⟨o, h1, h2, n, h4⟩
theorem op_eqL {X : Cx} (hu : X.A.units + 64 < cLine) : OpR X (compareOp .Eq) (rEqL X.K) := by
  intro pins s σ H x y v u Q I rx ry h
  obtain ⟨a, b, xs, ys, rfl, rfl, ha, hb, hn, q⟩ := h
  cases (show v = Value.ref a from rx)
  cases (show u = Value.ref b from ry)
  obtain ⟨is, ra, pa, _⟩ := I.list ha
  obtain ⟨js, rb, pb, _⟩ := I.list hb
  have l1 := ra.length
  have l2 := rb.length
  exact SeqAt.eq_list_lengthsAt (isL_of pa) (isL_of pb) (by simp; omega) (by omega) ⟨.bl false, H, I, rfl, q⟩
theorem op_neL {X : Cx} (hu : X.A.units + 64 < cLine) : OpR X (compareOp .NotEq) (rNeL X.K) := by
  intro pins s σ H x y v u Q I rx ry h
  obtain ⟨a, b, xs, ys, rfl, rfl, ha, hb, hn, q⟩ := h
  cases (show v = Value.ref a from rx)
  cases (show u = Value.ref b from ry)
  obtain ⟨is, ra, pa, _⟩ := I.list ha
  obtain ⟨js, rb, pb, _⟩ := I.list hb
  have l1 := ra.length
  have l2 := rb.length
  exact SeqAt.RcNeAt.lists_lengths (isL_of pa) (isL_of pb) (by simp; omega) (by omega) _ _ _ _ ⟨.bl true, H, I, rfl, q⟩
def rEq2 (K : Fg) : R2 := fun x y H Q => rEq x y H Q ∨ rEqD K x y H Q ∨ rEqL K x y H Q
def rNe2 (K : Fg) : R2 := fun x y H Q => rNe x y H Q ∨ rNeD K x y H Q ∨ rNeL K x y H Q
theorem S_eqB {F : Fm} {G H : Hp} {σ : L2.St} {ρ : En} {x y : V} {d e : D} {b : Bool} (R : Rl K F G H σ ρ) (hx : DRep K G H x d) (hy : DRep K G H y e) (ez : eqB d e = some b) :
    (scal x y = true ∧ decide (x = y) = b) ∨ (∃ p q, Dp K H x p ∧ Dp K H y q ∧ SeqAt.shaped p = true ∧ SeqAt.shaped q = true ∧ PyData.eqv p q = b) ∨ ∃ a b' xs ys, x = .ref a ∧ y = .ref b' ∧ SqL K H a xs ∧ SqL K H b' ys ∧ xs.length ≠ ys.length ∧ b = false := by
  unfold eqB at ez
  split at ez
  · cases ez
    obtain rfl := hx.str
    obtain rfl := hy.str
    exact .inl ⟨rfl, by simp⟩
  · cases ez
    obtain rfl := hx.int
    obtain rfl := hy.int
    exact .inl ⟨rfl, by simp⟩
  · cases ez
    obtain rfl := hx.bl
    obtain rfl := hy.bl
    exact .inl ⟨rfl, by simp⟩
  · cases ez
    obtain rfl := hx.non
    obtain rfl := hy.non
    exact .inl ⟨rfl, rfl⟩
  · split at ez
    · rename_i p q' e1 e2
      split at ez
      · rename_i hc
        cases ez
        exact .inr (.inl ⟨p, q', (hx.rep R.gh).dp e1, (hy.rep R.gh).dp e2, hc.1, hc.2, rfl⟩)
      · cases ez
    · split at ez
      · split at ez
        · cases ez
        · rename_i hl
          cases ez
          obtain ⟨a, xs, rfl, ha, ra⟩ := hx.lst R.gh
          obtain ⟨b', ys, rfl, hb, rb⟩ := hy.lst R.gh
          exact .inr (.inr ⟨a, b', xs, ys, rfl, rfl, .inl (.inl ha), .inl (.inl hb), by rw [ra.len, rb.len]; exact hl, rfl⟩)
      · cases ez
theorem S_eq : OpS K (rEq2 K) opEq := by
  intro F G H σ ρ x y d e z Q R hx hy ez q
  simp only [opEq, Option.map_eq_some_iff] at ez
  obtain ⟨b, eb, rfl⟩ := ez
  rcases S_eqB R hx hy eb with ⟨h1, rfl⟩ | ⟨p, q', h1, h2, h3, h4, rfl⟩ | ⟨a, b', xs, ys, h1, h2, h3, h4, h5, rfl⟩
  · exact .inl ⟨h1, q _ G H R (Same.refl G) (.bl _)⟩
  · exact .inr (.inl ⟨p, q', h1, h2, h3, h4, q _ G H R (Same.refl G) (.bl _)⟩)
  · exact .inr (.inr ⟨a, b', xs, ys, h1, h2, h3, h4, h5, q _ G H R (Same.refl G) (.bl _)⟩)
def opLtD : D2 := fun d e => match d.py, e.py with
  | some p, some q => if PySem.W.alike p q = true ∧ p.depth ≤ 60 then some (.val (.bl (PySem.W.dataLt p q))) else none
  | _, _ => none
def rLt2 (K : Fg) : R2 := fun x y H Q => rI0 (fun i j => .bl (decide (i < j))) x y H Q ∨ rLtD K x y H Q
@[simp] def opLt : D2
  | .int i, .int j => some (.val (.bl (decide (i < j))))
  | .tup ds, .tup es => opLtD (.tup ds) (.tup es)
  | .str x, .str y => opLtD (.str x) (.str y)
  | _, _ => none
theorem S_ltD {ds es : D} (hn : ds.py ≠ some .none) {F : Fm} {G H : Hp} {σ : L2.St} {ρ : En} {x y : V} {z : X} {Q : VK} (R : Rl K F G H σ ρ) (hx : DRep K G H x ds) (hy : DRep K G H y es) (ez : opLtD ds es = some z)
    (q : ∀ v G' H', Rl K F G' H' σ ρ → Same G G' → RepX K F G' H' σ ρ v z → Q v H') : rLtD K x y H Q := by
  simp only [opLtD] at ez
  split at ez
  · rename_i p q' e1 e2
    split at ez
    · rename_i hc
      cases ez
      exact ⟨p, q', (hx.rep R.gh).dp e1, (hy.rep R.gh).dp e2, hc.1, fun z => hn (by rw [e1, z]), by omega, q _ G H R (Same.refl G) (.bl _)⟩
    · cases ez
  · cases ez
theorem S_lt2 : OpS K (rLt2 K) opLt := by
  intro F G H σ ρ x y d e z Q R hx hy ez q
  cases d <;> cases e <;> first | (cases ez; done) | skip
  · exact .inl (S_lt F G H σ ρ x y _ _ _ Q R hx hy ez q)
  · exact .inr (S_ltD (fun z => by cases z) R hx hy ez q)
  · refine .inr (S_ltD (fun z => ?_) R hx hy ez q)
    simp only [D.py] at z
    rename_i ds _
    cases e2 : D.pyA ds with
    | none => rw [e2] at z; cases z
    | some ps => rw [e2] at z; cases z
end
theorem op_eq2 {X : Cx} {K : Fg} (hu : X.A.units + 64 < cLine) (h : X.K = K := by rfl) : OpR X (compareOp .Eq) (rEq2 K) := h ▸ OpRor op_eq (OpRor (op_eqD hu) (op_eqL hu))
theorem op_ne2 {X : Cx} {K : Fg} (hu : X.A.units + 64 < cLine) (h : X.K = K := by rfl) : OpR X (compareOp .NotEq) (rNe2 K) := h ▸ OpRor op_ne (OpRor (op_neD hu) (op_neL hu))
theorem op_lt2 {X : Cx} {K : Fg} (hu : X.A.units + 64 < cLine) (h : X.K = K := by rfl) : OpR X (compareOp .Lt) (rLt2 K) := h ▸ OpRor op_lt (op_ltD hu)
@[simp] def D.flat : D → Bool
  | .non | .bl _ | .int _ | .str _ => true
  | _ => false
@[simp] def D.items : D → Option (List D)
  | .tup ds | .lst ds | .scr ds => some ds
  | _ => none
def pyEq (d e : D) : Bool := match d.py, e.py with
  | some p, some q => PyData.eqv p q
  | _, _ => false
def inD (d : D) (es : List D) : Bool := es.any fun e => pyEq e d
def opInB (d e : D) : Option Bool := match e.items with
  | some es => if d.flat = true ∧ es.all D.flat = true then some (inD d es) else
    match e, d.py, D.pyA es with
    | .lst _, some p, some ps => if SeqAt.shaped p = true ∧ SeqAt.shaped (.list ps) = true then some (ps.any fun z => PyData.eqv z p) else none
    | .tup _, some p, some ps => if SeqAt.shaped p = true ∧ SeqAt.shaped (.tuple ps) = true then some (ps.any fun z => PyData.eqv z p) else none
    | _, _, _ => none
  | none => none
@[simp] def opIn : D2 := fun d e => (opInB d e).map fun b => .val (.bl b)
@[simp] def opNotIn : D2 := fun d e => (opInB d e).map fun b => .val (.bl !b)
section
variable {K : Fg}
@[simp] def opIsB : D2
  | .bl a, .bl b => some (.val (.bl (decide (a = b))))
  | _, _ => none
@[simp] def opNotB : D2
  | .bl a, .bl b => some (.val (.bl (!decide (a = b))))
  | _, _ => none
end
@[simp] def D.isNon : D → Bool
  | .non => true
  | _ => false
def dIsN (A : En → Res X) : En → Res X := fun ρ => (A ρ).bind fun a ρ1 => match deref ρ1 a with
  | some d => .ok (.val (.bl d.isNon)) ρ1
  | none => .stuck
def dNotN (A : En → Res X) : En → Res X := fun ρ => (A ρ).bind fun a ρ1 => match deref ρ1 a with
  | some d => .ok (.val (.bl !d.isNon)) ρ1
  | none => .stuck
section
variable {K : Fg} {E : XK} {ta tb tc : TE} {A B C : En → Res X}
@[simp] def asB (ρ : En) (a : X) : Option Bool := match deref ρ a with
  | some (.bl b) => some b
  | _ => none
theorem Rl.asB {F : Fm} {G H : Hp} {σ : L2.St} {ρ : En} {v : V} {a : X} {b : Bool} (R : Rl K F G H σ ρ) (hx : RepX K F G H σ ρ v a) (e : asB ρ a = some b) : v = .bl b := by
  unfold DL.asB at e
  cases e2 : DL.deref ρ a with
  | none => rw [e2] at e; cases e
  | some d =>
    rw [e2] at e
    cases d <;> cases e
    exact (R.deref hx e2).bl
def dTest (A : En → Res X) : En → Res Bool := fun ρ => (A ρ).bind fun a ρ1 => lift (asB ρ1 a) ρ1
theorem L_test (ha : LE K E ta A) : LT K E (fun σ H Q => ta σ H fun x H' => ∃ k, x = .bl k ∧ Q k H') (dTest A) := by
  refine LG.bind (k := fun x σ H Q => ∃ k, x = .bl k ∧ Q k H) ha fun F G H σ ρ x a Q R hx w => ?_
  obtain ⟨b, e, q⟩ := w.lift
  exact ⟨b, R.asB hx e, q _ G H R (Same.refl G) rfl⟩
def dNot (A : En → Res X) : En → Res X := fun ρ => (A ρ).bind fun a ρ1 => lift ((asB ρ1 a).map fun b => X.val (.bl !b)) ρ1
def dAnd (A B : En → Res X) : En → Res X := fun ρ => (A ρ).bind fun a ρ1 => match asB ρ1 a with
  | some true => B ρ1
  | some false => .ok (.val (.bl false)) ρ1
  | none => .stuck
def dOr (A B : En → Res X) : En → Res X := fun ρ => (A ρ).bind fun a ρ1 => match asB ρ1 a with
  | some false => B ρ1
  | some true => .ok (.val (.bl true)) ρ1
  | none => .stuck
variable {t u : TT} {T U : En → Res Bool}
def tnd (T U : En → Res Bool) : En → Res Bool := fun ρ => (T ρ).bind fun a ρ1 => match a with
  | true => U ρ1
  | false => .ok false ρ1
def tor (T U : En → Res Bool) : En → Res Bool := fun ρ => (T ρ).bind fun a ρ1 => match a with
  | true => .ok true ρ1
  | false => U ρ1
def tnot (T : En → Res Bool) : En → Res Bool := fun ρ => (T ρ).bind fun a ρ1 => .ok (!a) ρ1
def dIfE (T : En → Res Bool) (A B : En → Res X) : En → Res X := fun ρ => (T ρ).bind fun a ρ1 => match a with
  | true => A ρ1
  | false => B ρ1
theorem L_ifE (ht : LT K E t T) (ha : LE K E ta A) (hb : LE K E tb B) : LE K E (tIf t ta tb) (dIfE T A B) := by
  refine LG.bind (k := fun c σ H Q => if c = true then ta σ H Q else tb σ H Q) ht fun F G H σ ρ x a Q R hx w => ?_
  subst hx
  cases x with
  | true => exact iteT (ha F G H σ ρ Q R w)
  | false => exact iteF (hb F G H σ ρ Q R w)
/-- a op b op' c -/
def dChain (op op' : D2) (A B C : En → Res X) : En → Res X := fun ρ => (A ρ).bind fun a ρ1 => (B ρ1).bind fun b ρ2 => (ap2 op a.settle b.settle ρ2).bind fun z ρ3 => match asB ρ3 z with
  | some true => (C ρ3).bind fun c ρ4 => ap2 op' b.settle c ρ4
  | some false => .ok (.val (.bl false)) ρ3
  | none => .stuck
end
end DL
set_option Elab.async false
set_option linter.all false
set_option maxRecDepth 100000
set_option maxHeartbeats 2000000
namespace DL
open PySem PySem.Spec PyProof.Rows L2 DD
section
variable {K : Fg} {E : XK} {ta tb tc : TE} {A B C : En → Res X} {t : TA} {T : En → Res (List X)}
def aNil : En → Res (List X) := fun ρ => .ok [] ρ
def aCons (A : En → Res X) (T : En → Res (List X)) : En → Res (List X) := fun ρ => (A ρ).bind fun a ρ1 => (T ρ1).bind fun as ρ2 => .ok (a.settle :: as) ρ2
theorem A_nil : LA K E tNil aNil := fun F G H σ ρ Q R w => w [] G H R (Same.refl G) .nil
theorem RepXs.keep {F : Fm} {G G' H H' : Hp} {σ : L2.St} {ρ ρ' : En} : ∀ {vs : List V} {xs : List X}, RepXs K F G H σ ρ vs xs → Same G G' → RepXs K F G' H' σ ρ' vs xs
  | _, _, .nil, _ => .nil
  | _, _, .cons h n r, e => .cons (h.keep n e) n (r.keep e)
theorem A_cons (ha : LE K E ta A) (ht : LA K E t T) : LA K E (tCons ta t) (aCons A T) := by
  refine LG.bind (k := fun x σ H (Q : List V → Hp → Prop) => t σ H fun xs H2 => Q (x :: xs) H2) ha fun F G H σ ρ x a Q R hx w => ?_
  obtain ⟨G1, R1, s1, hx1⟩ := R.settle hx
  refine ht F G1 H σ ρ _ R1 ((w.mono s1).bind fun ys b G2 H2 ρ2 R2 s2 hy w2 => ?_)
  exact w2 _ G2 H2 R2 (Same.refl G2) (.cons (hx1.keep settle_no s2) settle_no hy)
@[simp] def derefs (ρ : En) : List X → Option (List D)
  | [] => some []
  | x :: xs => match deref ρ x, derefs ρ xs with
    | some d, some ds => some (d :: ds)
    | _, _ => none
theorem Rl.derefs {F : Fm} {G H : Hp} {σ : L2.St} {ρ : En} (R : Rl K F G H σ ρ) : ∀ {vs : List V} {xs : List X} {ds : List D}, RepXs K F G H σ ρ vs xs → derefs ρ xs = some ds → DRepA K G H vs ds
  | _, _, _, .nil, e => by cases e; exact .nil
  | _, x :: xs, _, .cons h n r, e => by
    simp only [DL.derefs] at e
    cases e1 : DL.deref ρ x with
    | none => rw [e1] at e; cases e
    | some d =>
      cases e2 : DL.derefs ρ xs with
      | none => rw [e1, e2] at e; cases e
      | some ds => rw [e1, e2] at e; cases e; exact .cons (R.deref h e1) (R.derefs r e2)
/-- as frozen data -/
@[simp] def toVals : En → List X → Option (List D × En)
  | ρ, [] => some ([], ρ)
  | ρ, x :: xs => match toVal ρ x with
    | some (d, ρ1) => match toVals ρ1 xs with
      | some (ds, ρ2) => some (d :: ds, ρ2)
      | none => none
    | none => none
theorem Rl.toVals {F : Fm} {H : Hp} {σ : L2.St} : ∀ {G : Hp} {ρ ρ' : En} {vs : List V} {xs : List X} {ds : List D}, Rl K F G H σ ρ → RepXs K F G H σ ρ vs xs → toVals ρ xs = some (ds, ρ') → ∃ G', Rl K F G' H σ ρ' ∧ Same G G' ∧ RepA K G' vs ds
  | G, ρ, _, _, _, _, R, .nil, e => by cases e; exact ⟨G, R, Same.refl G, .nil⟩
  | G, ρ, _, _, x :: xs, _, R, .cons h n r, e => by
    simp only [DL.toVals] at e
    cases e1 : DL.toVal ρ x with
    | none => rw [e1] at e; cases e
    | some p =>
      obtain ⟨d, ρ1⟩ := p
      rw [e1] at e
      dsimp only at e
      cases e2 : DL.toVals ρ1 xs with
      | none => rw [e2] at e; cases e
      | some p2 =>
        obtain ⟨ds, ρ2⟩ := p2
        rw [e2] at e
        cases e
        obtain ⟨G1, R1, s1, h1⟩ := R.toVal h e1
        obtain ⟨G2, R2, s2, h2⟩ := R1.toVals (r.keep s1) e2
        exact ⟨G2, R2, s1.trans s2, .cons (h1.mono s2) h2⟩
def dTup (T : En → Res (List X)) : En → Res X := fun ρ => (T ρ).bind fun xs ρ1 => match toVals ρ1 xs with
  | some (ds, ρ2) => if ds.length ≤ sizeLine then .ok (.val (.tup ds)) ρ2 else .stuck
  | none => .stuck
def dLst (T : En → Res (List X)) : En → Res X := fun ρ => (T ρ).bind fun xs ρ1 => match toVals ρ1 xs with
  | some (ds, ρ2) => if ds.length ≤ sizeLine then .ok (.new (.lst ds)) ρ2 else .stuck
  | none => .stuck
theorem L_lst (ht : LA K E t T) : LE K E (tLst t) (dLst T) := by
  refine LG.bind (k := fun xs σ H (Q : VK) => xs.length ≤ sizeLine ∧ ∀ p, H p = none → Q (.ref p) (upd H p (.lst xs))) ht fun F G H σ ρ vs xs Q R hx w => ?_
  cases e : toVals ρ xs with
  | none => rw [e] at w; exact w.elim
  | some p =>
    obtain ⟨ds, ρ2⟩ := p
    rw [e] at w
    dsimp only at w
    obtain ⟨G1, R1, s1, r1⟩ := R.toVals hx e
    split at w
    · rename_i hz
      refine ⟨by rw [r1.len]; exact hz, fun p np => ?_⟩
      obtain ⟨R2, r2⟩ := newL R1 np r1
      exact w _ _ _ R2 s1 r2
    · exact w.elim
@[simp] def opIx : D2
  | .tup ds, .int i | .lst ds, .int i | .scr ds, .int i => (atI ds i).map X.val
  | .str z, .int i => if z.length ≤ sizeLine then (atI z.cps.toList i).map fun c => X.val (.str ⟨#[c]⟩) else none
  | _, _ => none
theorem atI_rep {G : Hp} {vs : List V} {ds : List D} {i : Int} {d : D} (r : RepA K G vs ds) (e : atI ds i = some d) : ∃ v, atI vs i = some v ∧ Rep K G v d := by
  unfold atI at e ⊢
  rw [r.len]
  cases e1 : ixN ds.length i with
  | none => rw [e1] at e; cases e
  | some j =>
    rw [e1] at e
    exact r.get e
theorem S_ix : OpS K (rIx K) opIx := by
  intro F G H σ ρ x y d e z Q R hx hy ez q
  cases d <;> cases e <;> first | (cases ez; done) | skip
  · simp only [opIx] at ez
    split at ez
    · rename_i hc
      rw [Option.map_eq_some_iff] at ez
      obtain ⟨c, e1, rfl⟩ := ez
      exact .inr (.inr ⟨_, _, c, hx.str, hy.int, hc, e1, q _ G H R (Same.refl G) (.str _)⟩)
    · cases ez
  · simp only [opIx, Option.map_eq_some_iff] at ez
    obtain ⟨d, e1, rfl⟩ := ez
    obtain ⟨a, vs, rfl, g, h, r⟩ := hx.tup R.gh
    obtain ⟨v, e2, h2⟩ := atI_rep r e1
    exact .inr (.inl ⟨a, vs, _, v, rfl, hy.int, h, e2, q _ G H R (Same.refl G) h2⟩)
  · simp only [opIx, Option.map_eq_some_iff] at ez
    obtain ⟨d, e1, rfl⟩ := ez
    obtain ⟨a, vs, rfl, h, r⟩ := hx.lst R.gh
    obtain ⟨v, e2, h2⟩ := atI_rep r e1
    exact .inl ⟨a, vs, _, v, rfl, hy.int, .inl (.inl h), e2, q _ G H R (Same.refl G) h2⟩
  · simp only [opIx, Option.map_eq_some_iff] at ez
    obtain ⟨d, e1, rfl⟩ := ez
    obtain ⟨a, vs, rfl, h, r⟩ := hx.scr R.gh
    obtain ⟨v, e2, h2⟩ := atI_rep r e1
    exact .inl ⟨a, vs, _, v, rfl, hy.int, h, e2, q _ G H R (Same.refl G) h2⟩
def cutD (ds : List D) (lo hi : Option Int) : List D := (ds.drop (HT.sIx ds.length 0 lo)).take (HT.sIx ds.length ds.length hi - HT.sIx ds.length 0 lo)
def oNone : En → Res (Option Int) := fun ρ => .ok none ρ
@[simp] def asI (ρ : En) (a : X) : Option Int := match deref ρ a with
  | some (.int i) => some i
  | _ => none
def oSome (A : En → Res X) : En → Res (Option Int) := fun ρ => (A ρ).bind fun a ρ1 => lift ((asI ρ1 a).map some) ρ1
theorem Rl.asI {F : Fm} {G H : Hp} {σ : L2.St} {ρ : En} {v : V} {a : X} {b : Int} (R : Rl K F G H σ ρ) (hx : RepX K F G H σ ρ v a) (e : asI ρ a = some b) : v = .int b := by
  unfold DL.asI at e
  cases e2 : DL.deref ρ a with
  | none => rw [e2] at e; cases e
  | some d =>
    rw [e2] at e
    cases d <;> cases e
    exact (R.deref hx e2).int
@[simp] def opSl (d : D) (lo hi : Option Int) : Option X := match d with
  | .tup ds => some (.val (.tup (cutD ds lo hi)))
  | .lst ds => some (.new (.lst (cutD ds lo hi)))
  | .str z => if z.length ≤ sizeLine then some (.val (.str (cutS z lo hi))) else none
  | _ => none
def rSl3 (K : Fg) : V → Option Int → Option Int → Hp → VK → Prop := fun x lo hi H Q => rSlA K x lo hi H Q ∨ rSlL K x lo hi H Q ∨ rSlS x lo hi H Q
def dSl (A : En → Res X) (L U : En → Res (Option Int)) : En → Res X := fun ρ => (A ρ).bind fun a ρ1 => (L ρ1).bind fun lo ρ2 => (U ρ2).bind fun hi ρ3 => match deref ρ3 a.settle with
  | some d => lift (opSl d lo hi) ρ3
  | none => .stuck
end
theorem SlRor {X : Cx} {r r' : V → Option Int → Option Int → Hp → VK → Prop} (h : SlR X r) (h' : SlR X r') : SlR X (fun x lo hi H Q => r x lo hi H Q ∨ r' x lo hi H Q) := by
  intro pins s σ H x v vl vu lo hi sl Q I rx hs pl pu q
  rcases q with q | q
  · exact h pins s σ H x v vl vu lo hi sl Q I rx hs pl pu q
  · exact h' pins s σ H x v vl vu lo hi sl Q I rx hs pl pu q
theorem sl_3 {X : Cx} {K : Fg} (h : X.K = K := by rfl) : SlR X (rSl3 K) := h ▸ SlRor sl_tupA (SlRor sl_list sl_str)
theorem ix_3 {X : Cx} {K : Fg} (h : X.K = K := by rfl) : IxR X (rIx K) := h ▸ ix_seq
theorem CallRor {X : Cx} {f : Value} {r r' : List V → Hp → VK → Prop} (h : CallR X f r) (h' : CallR X f r') : CallR X f (fun xs H Q => r xs H Q ∨ r' xs H Q) := by
  intro pins s σ H xs us Q I rx q
  rcases q with q | q
  · exact h pins s σ H xs us Q I rx q
  · exact h' pins s σ H xs us Q I rx q
def CallS (K : Fg) (r : List V → Hp → VK → Prop) (f : List D → Option X) : Prop := ∀ (F : Fm) (G H : Hp) (σ : L2.St) (ρ : En) (vs : List V) (ds : List D) (z : X) (Q : VK), Rl K F G H σ ρ → DRepA K G H vs ds → f ds = some z →
  (∀ v G' H', Rl K F G' H' σ ρ → Same G G' → RepX K F G' H' σ ρ v z → Q v H') → r vs H Q
@[simp] def apN (f : List D → Option X) (xs : List X) (ρ : En) : Res X := match derefs ρ xs with
  | some ds => lift (f ds) ρ
  | none => .stuck
def dCB (f : List D → Option X) (T : En → Res (List X)) : En → Res X := fun ρ => (T ρ).bind (apN f)
section
variable {K : Fg} {E : XK} {ta tb tc : TE} {A B C : En → Res X} {t : TA} {T : En → Res (List X)} {r : List V → Hp → VK → Prop} {f : List D → Option X}
theorem L_cb (hr : CallS K r f) (ht : LA K E t T) : LE K E (tCB r t) (dCB f T) := by
  refine LG.bind (k := fun vs σ H (Q : VK) => r vs H Q) ht fun F G H σ ρ vs xs Q R hx w => ?_
  unfold apN at w
  cases e : derefs ρ xs with
  | none => rw [e] at w; exact w.elim
  | some ds =>
    rw [e] at w
    obtain ⟨z, ez, q⟩ := w.lift
    exact hr F G H σ ρ vs ds z Q R (R.derefs hx e) ez q
theorem DRepA.one {G H : Hp} {vs : List V} {d : D} (h : DRepA K G H vs [d]) : ∃ v, vs = [v] ∧ DRep K G H v d := by
  cases h with
  | cons h r => cases r; exact ⟨_, rfl, h⟩
theorem DRepA.two {G H : Hp} {vs : List V} {d e : D} (h : DRepA K G H vs [d, e]) : ∃ v w, vs = [v, w] ∧ DRep K G H v d ∧ DRep K G H w e := by
  cases h with
  | cons h r =>
    obtain ⟨w, rfl, h2⟩ := r.one
    exact ⟨_, w, rfl, h, h2⟩
@[simp] def fLen : List D → Option X
  | [.tup ds] | [.lst ds] | [.scr ds] => some (.val (.int ds.length))
  | [.str z] => if z.length ≤ sizeLine then some (.val (.int z.length)) else none
  | _ => none
def rLen2 (K : Fg) : List V → Hp → VK → Prop := fun xs H Q => (∃ p ys, xs = [.ref p] ∧ (SqL K H p ys ∨ SqT K H p ys) ∧ Q (.int ys.length) H) ∨ ∃ z, xs = [.str z] ∧ z.length ≤ sizeLine ∧ Q (.int z.length) H
theorem C_len : CallS K (rLen2 K) fLen := by
  intro F G H σ ρ vs ds z Q R hx ez q
  unfold fLen at ez
  split at ez
  · cases ez
    obtain ⟨v, rfl, h⟩ := hx.one
    obtain ⟨a, ws, rfl, g, h, r⟩ := h.tup R.gh
    exact .inl ⟨a, ws, rfl, .inr h, by rw [r.len]; exact q _ G H R (Same.refl G) (.int _)⟩
  · cases ez
    obtain ⟨v, rfl, h⟩ := hx.one
    obtain ⟨a, ws, rfl, h, r⟩ := h.lst R.gh
    exact .inl ⟨a, ws, rfl, .inl (.inl (.inl h)), by rw [r.len]; exact q _ G H R (Same.refl G) (.int _)⟩
  · cases ez
    obtain ⟨v, rfl, h⟩ := hx.one
    obtain ⟨a, ws, rfl, h, r⟩ := h.scr R.gh
    exact .inl ⟨a, ws, rfl, .inl h, by rw [r.len]; exact q _ G H R (Same.refl G) (.int _)⟩
  · split at ez
    · rename_i hc
      cases ez
      obtain ⟨v, rfl, h⟩ := hx.one
      obtain rfl := h.str
      exact .inr ⟨_, rfl, hc, q _ G H R (Same.refl G) (.int _)⟩
    · cases ez
  · cases ez
@[simp] def fAbs : List D → Option X
  | [.int i] => some (.val (.int (if i < 0 then -i else i)))
  | _ => none
theorem C_abs : CallS K (fun xs H Q => ∃ i, xs = [.int i] ∧ Q (.int (if i < 0 then -i else i)) H) fAbs := by
  intro F G H σ ρ vs ds z Q R hx ez q
  unfold fAbs at ez
  split at ez
  · cases ez
    obtain ⟨v, rfl, h⟩ := hx.one
    obtain rfl := h.int
    exact ⟨_, rfl, q _ G H R (Same.refl G) (.int _)⟩
  · cases ez
@[simp] def fMax : List D → Option X
  | [.int i, .int j] => some (.val (.int (if j > i then j else i)))
  | _ => none
theorem C_max : CallS K (fun xs H Q => ∃ i j, xs = [.int i, .int j] ∧ Q (.int (if j > i then j else i)) H) fMax := by
  intro F G H σ ρ vs ds z Q R hx ez q
  unfold fMax at ez
  split at ez
  · cases ez
    obtain ⟨v, w, rfl, h, h2⟩ := hx.two
    obtain rfl := h.int
    obtain rfl := h2.int
    exact ⟨_, _, rfl, q _ G H R (Same.refl G) (.int _)⟩
  · cases ez
@[simp] def fMin : List D → Option X
  | [.int i, .int j] => some (.val (.int (if j < i then j else i)))
  | _ => none
theorem C_min : CallS K (fun xs H Q => ∃ i j, xs = [.int i, .int j] ∧ Q (.int (if j < i then j else i)) H) fMin := by
  intro F G H σ ρ vs ds z Q R hx ez q
  unfold fMin at ez
  split at ez
  · cases ez
    obtain ⟨v, w, rfl, h, h2⟩ := hx.two
    obtain rfl := h.int
    obtain rfl := h2.int
    exact ⟨_, _, rfl, q _ G H R (Same.refl G) (.int _)⟩
  · cases ez
def rInt2 : List V → Hp → VK → Prop := fun xs H Q => ((∃ i, xs = [.int i] ∧ Q (.int i) H) ∨ ∃ k, xs = [.bl k] ∧ Q (.int (if k then 1 else 0)) H) ∨ ∃ a n, xs = [.str a] ∧ PySem.intText? a = some n ∧ a.length ≤ 640 ∧ Q (.int n) H
@[simp] def fInt : List D → Option X
  | [.int i] => some (.val (.int i))
  | [.bl k] => some (.val (.int (if k then 1 else 0)))
  | [.str a] => if a.length ≤ 640 then (PySem.intText? a).map fun n => .val (.int n) else none
  | _ => none
theorem C_int : CallS K rInt2 fInt := by
  intro F G H σ ρ vs ds z Q R hx ez q
  unfold fInt at ez
  split at ez
  · cases ez
    obtain ⟨v, rfl, h⟩ := hx.one
    obtain rfl := h.int
    exact .inl (.inl ⟨_, rfl, q _ G H R (Same.refl G) (.int _)⟩)
  · cases ez
    obtain ⟨v, rfl, h⟩ := hx.one
    obtain rfl := h.bl
    exact .inl (.inr ⟨_, rfl, q _ G H R (Same.refl G) (.int _)⟩)
  · split at ez
    · rename_i hc
      rw [Option.map_eq_some_iff] at ez
      obtain ⟨n, en, rfl⟩ := ez
      obtain ⟨v, rfl, h⟩ := hx.one
      obtain rfl := h.str
      exact .inr ⟨_, n, rfl, en, hc, q _ G H R (Same.refl G) (.int _)⟩
    · cases ez
  · cases ez
@[simp] def fStr : List D → Option X
  | [.int i] => if i.natAbs.log2 < 1920 then some (.val (.str (toString i))) else none
  | _ => none
@[simp] def fList : List D → Option X
  | [.tup ds] | [.lst ds] | [.scr ds] => some (.new (.lst ds))
  | _ => none
@[simp] def fTuple : List D → Option X
  | [.tup ds] | [.lst ds] | [.scr ds] => some (.val (.tup ds))
  | _ => none
theorem C_tuple : CallS K (fun xs H Q => ∃ p ys, xs = [.ref p] ∧ ((SqL K H p ys ∧ ∀ l, H l = none → Q (.ref l) (upd H l (.tup ys))) ∨ (SqT K H p ys ∧ Q (.ref p) H))) fTuple := by
  intro F G H σ ρ vs ds z Q R hx ez q
  unfold fTuple at ez
  split at ez
  · cases ez
    obtain ⟨v, rfl, h⟩ := hx.one
    obtain ⟨a, ws, rfl, g, h, r⟩ := h.tup R.gh
    exact ⟨a, ws, rfl, .inr ⟨h, q _ G H R (Same.refl G) (.tup g r)⟩⟩
  · cases ez
    obtain ⟨v, rfl, h⟩ := hx.one
    obtain ⟨a, ws, rfl, h, r⟩ := h.lst R.gh
    refine ⟨a, ws, rfl, .inl ⟨.inl (.inl h), fun p np => ?_⟩⟩
    obtain ⟨R2, s2, r2⟩ := newT R np r
    exact q _ _ _ R2 s2 r2
  · cases ez
    obtain ⟨v, rfl, h⟩ := hx.one
    obtain ⟨a, ws, rfl, h, r⟩ := h.scr R.gh
    refine ⟨a, ws, rfl, .inl ⟨h, fun p np => ?_⟩⟩
    obtain ⟨R2, s2, r2⟩ := newT R np r
    exact q _ _ _ R2 s2 r2
  · cases ez
@[simp] def allB : List D → Option (List Bool)
  | [] => some []
  | .bl b :: ds => (allB ds).map (b :: ·)
  | _ => none
@[simp] def fAll : List D → Option X
  | [.lst ds] => (allB ds).map fun bs => .val (.bl (bs.all id))
  | _ => none
@[simp] def fAny : List D → Option X
  | [.lst ds] => (allB ds).map fun bs => .val (.bl (bs.any id))
  | _ => none
@[simp] def allI : List D → Option (List Int)
  | [] => some []
  | .int b :: ds => (allI ds).map (b :: ·)
  | _ => none
@[simp] def fSum : List D → Option X
  | [.lst ds] => (allI ds).map fun bs => .val (.int bs.sum)
  | _ => none
@[simp] def allS : List D → Option (List Str)
  | [] => some []
  | .str b :: ds => (allS ds).map (b :: ·)
  | _ => none
def rgD (a b : Int) : List D := (List.range (b - a).toNat).map fun i => D.int (a + (i : Nat))
def g1 (A : En → Res X) : En → Res (Int × Int) := fun ρ => (A ρ).bind fun a ρ1 => lift ((asI ρ1 a).map fun n => (0, n)) ρ1
def g2 (A B : En → Res X) : En → Res (Int × Int) := fun ρ => (A ρ).bind fun a ρ1 => (B ρ1).bind fun b ρ2 => match asI ρ2 a.settle, asI ρ2 b with
  | some i, some j => .ok (i, j) ρ2
  | _, _ => .stuck
open Classical in
noncomputable def dLstRg (T : En → Res (Int × Int)) : En → Res X := fun ρ => (T ρ).bind fun p ρ1 => if RgOk p.1 p.2 then .ok (.new (.lst (rgD p.1 p.2))) ρ1 else .stuck
@[simp] def fmtD : D → Option Str
  | .str y => if y.length ≤ sizeLine then some y else none
  | .int i => if i.natAbs.log2 < 1920 then some (toString i) else none
  | _ => none
def dFmt (A : En → Res X) : En → Res X := fun ρ => (A ρ).bind fun a ρ1 => match deref ρ1 a with
  | some d => lift ((fmtD d).map fun s => X.val (.str s)) ρ1
  | none => .stuck
def jNil : Str → En → Res Str := fun acc ρ => .ok acc ρ
def jCons (A : En → Res X) (J : Str → En → Res Str) : Str → En → Res Str := fun acc ρ => (A ρ).bind fun a ρ1 => match deref ρ1 a with
  | some (.str y) => if (acc ++ y).length ≤ sizeLine then J (acc ++ y) ρ1 else .stuck
  | _ => .stuck
def dJoin (J : Str → En → Res Str) : En → Res X := fun ρ => (J Str.empty ρ).bind fun s ρ1 => .ok (.val (.str s)) ρ1
def dMt (f : D → List D → Option X) (A : En → Res X) (T : En → Res (List X)) : En → Res X := fun ρ => (A ρ).bind fun a ρ1 => match deref ρ1 a with
  | some (.str s) => (T ρ1).bind fun xs ρ2 => match derefs ρ2 xs with
    | some ds => lift (f (.str s) ds) ρ2
    | none => .stuck
  | _ => .stuck
@[simp] def fJoin : D → List D → Option X
  | .str a, [.lst ds] | .str a, [.tup ds] => match allS ds with
    | some ys => if (ys.map (·.length)).sum + ys.length * a.length ≤ 16777216 then some (.val (.str (Txt.join a ys))) else none
    | none => none
  | _, _ => none
end
theorem call_len2 {X : Cx} {K : Fg} (h : X.K = K := by rfl) : CallR X (.builtin "len") (rLen2 K) := h ▸ CallRor call_len_seq call_len_str
theorem call_int2 {X : Cx} : CallR X (.type "int") rInt2 := CallRor call_int1 call_int_str
end DL
set_option Elab.async false
set_option linter.all false
set_option maxRecDepth 100000
set_option maxHeartbeats 2000000
namespace DL
open PySem PySem.Spec PyProof.Rows L2 DD
def Fm.at (F : Fm) (G : Hp) : Fm := { F with G0 := G }
def Fm.hold (F : Fm) (a : Addr) (o : HO) : Fm := { F with H0 := upd F.H0 a o }
section
variable {K : Fg} {F : Fm} {G G' H H' : Hp} {σ σ' : L2.St} {ρ ρ' : En} {a p : Addr}
theorem Rl.at (R : Rl K F G H σ ρ) : Rl K (F.at G) G H σ ρ :=
  ⟨R.gh, Same.refl G, fun a o h h' => (by rw [show G a = none from h'] at h; cases h), R.hk, R.hm, R.hl, R.sl, R.di, R.mi, ⟨R.tb.1, R.tb.2.1, fun a o h h' => (by rw [show G a = none from h'] at h; cases h)⟩⟩
theorem Rl.back (R : Rl K F G H σ ρ) (R' : Rl K (F.at G) G' H' σ' ρ') : Rl K F G' H' σ' ρ' :=
  ⟨R'.gh, R.g0.trans R'.g0, fun a o h h' => (by
    cases e : G a with
    | some u => exact R.gn a u e h'
    | none => exact R'.gn a o h e), R'.hk, R'.hm, R'.hl, R'.sl, R'.di, R'.mi, ⟨R'.tb.1, R'.tb.2.1, fun a o h h' => (by
    cases e : G a with
    | some u =>
      have z := R'.g0 _ _ e
      rw [h] at z
      cases z
      exact R.tb.2.2 a o e h'
    | none => exact R'.tb.2.2 a o h e)⟩⟩
theorem RepX.at {v : V} {x : X} (h : RepX K (F.at G0) G H σ ρ v x) : RepX K F G H σ ρ v x := by cases x <;> exact h
/-- what no slot owns is held -/
theorem Rl.hold {o : HO} (R : Rl K F G H σ ρ) (h : H a = some o) (h0 : F.H0 a = none) (hg : G a = none) (n : ∀ (j : Nat) (u : O), ρ[j]? = some (.own u) → σ[j]? ≠ some (some (.ref a))) : Rl K (F.hold a o) G H σ ρ where
  gh := R.gh
  g0 := R.g0
  gn := fun b u hb hb' => by
    show upd F.H0 a o b = none
    rw [upd_ne (ne_of_none hb hg)]
    exact R.gn b u hb hb'
  hk := fun b u hb hb' => by
    by_cases q : b = a
    · subst q
      rw [show (F.hold b o).H0 b = some o from upd_same] at hb
      cases hb
      exact h
    · rw [show (F.hold a o).H0 b = F.H0 b from upd_ne q] at hb
      exact R.hk b u hb hb'
  hm := fun i b hb => by
    obtain ⟨h1, h2, h3⟩ := R.hm i b hb
    refine ⟨h1, ?_, h3⟩
    show upd F.H0 a o b ≠ none
    rw [upd_ne (fun q => h2 (by rw [q]; exact h0))]
    exact h2
  hl := R.hl
  sl := fun i s hs => by
    obtain ⟨x, h1, h2⟩ := R.sl i s hs
    refine ⟨x, h1, ?_⟩
    cases s with
    | none => trivial
    | val d => exact h2
    | own u =>
      obtain ⟨b, rfl, e2, e3, e4⟩ := h2
      refine ⟨b, rfl, ?_, e3, e4⟩
      show upd F.H0 a o b = none
      rw [upd_ne (fun q => n i u hs (by rw [h1, q]))]
      exact e2
    | bor u => exact h2
    | lck u =>
      obtain ⟨b, u', rfl, e2, e3, e5, e6, e4⟩ := h2
      refine ⟨b, u', rfl, e2, e3, ?_, e6, e4⟩
      show upd F.H0 a o b = some u'
      rw [upd_ne (fun q => by rw [q, h0] at e5; cases e5)]
      exact e5
  di := R.di
  mi := R.mi
  tb := R.tb
theorem Rl.noM (R : Rl K F G H σ ρ) (h0 : F.H0 a = none) (i : Nat) : F.M i ≠ some a := fun z => (R.hm i a z).2.1 h0
theorem Rl.heldG {o : HO} (R : Rl K (F.hold a o) G H σ ρ) (hg : F.G0 a = none) : G a = none := by
  cases e : G a with
  | none => rfl
  | some u =>
    have := R.gn a u e hg
    rw [show (F.hold a o).H0 a = some o from upd_same] at this
    cases this
theorem Rl.heldH {o : HO} (R : Rl K (F.hold a o) G H σ ρ) (hm : ∀ i, F.M i ≠ some a) : H a = some o := R.hk a o upd_same hm
theorem Rl.heldN {o : HO} (R : Rl K (F.hold a o) G H σ ρ) : ∀ (j : Nat) (u : O), ρ[j]? = some (.own u) → σ[j]? ≠ some (some (.ref a)) := fun j u hj z => by
  obtain ⟨b, h1, h2, _⟩ := R.own hj
  rw [h1] at z
  cases z
  rw [show (F.hold a o).H0 a = some o from upd_same] at h2
  cases h2
/-- held no longer -/
theorem Rl.unhold {o : HO} (R : Rl K (F.hold a o) G H σ ρ) (h0 : F.H0 a = none) (hl : ∀ i, F.L i ≠ some a) (hm : ∀ i, F.M i ≠ some a) : Rl K F G H σ ρ where
  gh := R.gh
  g0 := R.g0
  gn := fun b u hb hb' => by
    by_cases q : b = a
    · rw [q]; exact h0
    · have := R.gn b u hb hb'
      rw [show (F.hold a o).H0 b = F.H0 b from upd_ne q] at this
      exact this
  hk := fun b u hb hb' => R.hk b u (by
    rw [show (F.hold a o).H0 b = F.H0 b from upd_ne (ne_of_none hb h0)]
    exact hb) hb'
  hm := fun i b hb => by
    obtain ⟨h1, h2, h3⟩ := R.hm i b hb
    refine ⟨h1, ?_, h3⟩
    rw [show (F.hold a o).H0 b = F.H0 b from upd_ne (fun q => hm i (by rw [← q]; exact hb))] at h2
    exact h2
  hl := R.hl
  sl := fun i s hs => by
    obtain ⟨x, h1, h2⟩ := R.sl i s hs
    refine ⟨x, h1, ?_⟩
    cases s with
    | none => trivial
    | val d => exact h2
    | own u =>
      obtain ⟨b, rfl, e2, e3, e4⟩ := h2
      refine ⟨b, rfl, ?_, e3, e4⟩
      by_cases q : b = a
      · rw [q]; exact h0
      · rw [show (F.hold a o).H0 b = F.H0 b from upd_ne q] at e2
        exact e2
    | bor u => exact h2
    | lck u =>
      obtain ⟨b, u', rfl, e2, e3, e5, e6, e4⟩ := h2
      refine ⟨b, u', rfl, e2, e3, ?_, e6, e4⟩
      rw [show (F.hold a o).H0 b = F.H0 b from upd_ne (fun q => hl i (by rw [← q]; exact e2))] at e5
      exact e5
  di := R.di
  mi := R.mi
  tb := R.tb
theorem Rl.rehold {o o' : HO} (R : Rl K (F.hold a o) G H σ ρ) (h0 : F.H0 a = none) (hg : F.G0 a = none) (hl : ∀ i, F.L i ≠ some a) (hm : ∀ i, F.M i ≠ some a) (nu : Usual a o := by first | exact usual_lst | exact usual_ins) : Rl K (F.hold a o') G (upd H a o') σ ρ := by
  have N := R.heldN
  have hG := R.heldG hg
  have R1 := R.unhold h0 hl hm
  have far : ∀ b, b ≠ a → upd H a o' b = H b := fun b q => upd_ne q
  have R2 : Rl K F G (upd H a o') σ ρ := by
    refine ⟨fun b u hb => by rw [far b (ne_of_none hb hG)]; exact R1.gh b u hb, R1.g0, R1.gn, fun b u hb hb' => by rw [far b (ne_of_none hb h0)]; exact R1.hk b u hb hb', fun i b hb => ?_, R1.hl, fun i s hs => ?_, R1.di, R1.mi, R1.tb.chg (R.heldH hm) nu⟩
    · obtain ⟨h1, h2, h3⟩ := R1.hm i b hb
      exact ⟨by rw [far b (fun q => hm i (by rw [← q]; exact hb))]; exact h1, h2, h3⟩
    · obtain ⟨x, h1, h2⟩ := R1.sl i s hs
      refine ⟨x, h1, ?_⟩
      have mv : ∀ b w, b ≠ a → ObjO K G H b w → ObjO K G (upd H a o') b w := fun b w q z => z.mono (Same.refl G) fun u e => by rw [far b q]; exact e
      cases s with
      | none => trivial
      | val d => exact h2
      | own u =>
        obtain ⟨b, rfl, e2, e3, e4⟩ := h2
        exact ⟨b, rfl, e2, e3, mv b u (fun q => N i u hs (by rw [h1, q])) e4⟩
      | bor u =>
        obtain ⟨b, rfl, e2, e3, e4⟩ := h2
        exact ⟨b, rfl, e2, e3, mv b u (fun q => hm i (by rw [← q]; exact e2)) e4⟩
      | lck u =>
        obtain ⟨b, u', rfl, e2, e3, e5, e6, e4⟩ := h2
        exact ⟨b, u', rfl, e2, e3, e5, e6, mv b u (fun q => hl i (by rw [← q]; exact e2)) e4⟩
  exact R2.hold upd_same h0 hG N
theorem Rl.noL (R : Rl K F G H σ ρ) (h0 : F.H0 a = none) (i : Nat) : F.L i ≠ some a := fun z => by
  obtain ⟨o, h⟩ := R.hl i a z
  obtain ⟨x, _, b, u, _, e2, _, e5, _⟩ := R.sl i _ h
  rw [z] at e2
  cases e2
  rw [h0] at e5
  cases e5
theorem RepX.unhold {v : V} {x : X} {o : HO} (h : RepX K (F.hold a o) G H σ ρ v x) (h0 : F.H0 a = none) : RepX K F G H σ ρ v x := by
  cases x with
  | val d => exact h
  | own i => exact h
  | new u =>
    obtain ⟨b, rfl, e2, e3⟩ := h
    refine ⟨b, rfl, ?_, e3⟩
    by_cases q : b = a
    · rw [q]; exact h0
    · rw [show (F.hold a o).H0 b = F.H0 b from upd_ne q] at e2
      exact e2
end
inductive SR where
  | nx (ρ : En) | rt (x : X) (ρ : En) | bk (ρ : En) | ct (ρ : En) | err (x : Xc) (ρ : En) | stuck
def Res.sb {α : Type} : Res α → (α → En → SR) → SR
  | .ok a ρ, U => U a ρ
  | .err x ρ, _ => .err x ρ
  | .stuck, _ => .stuck
def WS (K : Fg) (E : XK) (F : Fm) (D : Ends) : SR → Prop
  | .nx ρ => ∀ σ G H, Rl K F G H σ ρ → D.nx σ H
  | .rt x ρ => ∀ v σ G H, Rl K F G H σ ρ → RepX K F G H σ ρ v x → D.rt v H
  | .bk ρ => ∀ σ G H, Rl K F G H σ ρ → D.bk σ H
  | .ct ρ => ∀ σ G H, Rl K F G H σ ρ → D.ct σ H
  | .err x ρ => ∀ c od σ G H, Rl K F G H σ ρ → XRep K G H c od x → E c od H
  | .stuck => False
def LS (K : Fg) (E : XK) (t : TS) (T : En → SR) : Prop := ∀ (F : Fm) (G H : Hp) (σ : L2.St) (ρ : En) (D : Ends), Rl K F G H σ ρ → WS K E F D (T ρ) → t D σ H
section
variable {α β : Type} {K : Fg} {E : XK} {F : Fm} {G G' H H' : Hp} {σ : L2.St} {ρ ρ' : En}
theorem WS.sb {rel : Rel β α} {D : Ends} {Q1 : β → Hp → Prop} {r : Res α} {U : α → En → SR} (h : WS K E F D (r.sb U))
    (k : ∀ b a G' H' ρ', Rl K F G' H' σ ρ' → Same G G' → rel F G' H' σ ρ' b a → WS K E F D (U a ρ') → Q1 b H') : Wants K E rel F G σ Q1 r := by
  cases r with
  | ok a ρ' => exact fun b G2 H2 R s q => k b a G2 H2 ρ' R s q h
  | err x ρ' => exact fun c od G2 H2 R _ x => h c od σ G2 H2 R x
  | stuck => exact h
variable {ta tb : TE} {A B : En → Res X} {tt : TT} {T : En → Res Bool} {s u : TS} {S U : En → SR}
def sNext : En → SR := fun ρ => .nx ρ
theorem L_next : LS K E tNext sNext := fun F G H σ ρ D R w => w σ G H R
def sSeq (S U : En → SR) : En → SR := fun ρ => match S ρ with
  | .nx ρ1 => U ρ1
  | r => r
theorem L_seq (h1 : LS K E s S) (h2 : LS K E u U) : LS K E (tSeq s u) (sSeq S U) := by
  intro F G H σ ρ D R w
  refine h1 F G H σ ρ _ R ?_
  unfold sSeq at w
  cases e : S ρ with
  | nx ρ1 =>
    rw [e] at w
    exact fun σ' G' H' R' => h2 F G' H' σ' ρ1 D R' w
  | rt x ρ1 => rw [e] at w; exact w
  | bk ρ1 => rw [e] at w; exact w
  | ct ρ1 => rw [e] at w; exact w
  | err x ρ1 => rw [e] at w; exact w
  | stuck => rw [e] at w; exact w
def sDrop (A : En → Res X) : En → SR := fun ρ => (A ρ).sb fun _ ρ1 => .nx ρ1
def sRet (A : En → Res X) : En → SR := fun ρ => (A ρ).sb fun a ρ1 => .rt a ρ1
theorem L_ret (ha : LE K E ta A) : LS K E (tRet ta) (sRet A) := by
  intro F G H σ ρ D R w
  exact ha F G H σ ρ _ R (w.sb fun b a G' H' ρ' R' _ hx w' => w' b σ G' H' R' hx)
def sRetN : En → SR := fun ρ => .rt (.val .non) ρ
def sBreak : En → SR := fun ρ => .bk ρ
def sCont : En → SR := fun ρ => .ct ρ
def sIf (T : En → Res Bool) (S U : En → SR) : En → SR := fun ρ => (T ρ).sb fun b ρ1 => match b with
  | true => S ρ1
  | false => U ρ1
theorem L_if (ht : LT K E tt T) (h1 : LS K E s S) (h2 : LS K E u U) : LS K E (tIfS tt s u) (sIf T S U) := by
  intro F G H σ ρ D R w
  refine ht F G H σ ρ _ R (w.sb fun b a G' H' ρ' R' _ e w' => ?_)
  subst e
  cases b with
  | true => exact iteT (h1 F G' H' σ ρ' D R' w')
  | false => exact iteF (h2 F G' H' σ ρ' D R' w')
@[simp] def putX (i : Nat) (x : X) (ρ : En) : SR := match x with
  | .val d => if freeAt ρ i then .nx (ρ.set i (.val d)) else .stuck
  | .new o => if freeAt ρ i then .nx (ρ.set i (.own o)) else .stuck
  | .own j => match toVal ρ (.own j) with
    | some (d, ρ1) => if freeAt ρ1 i then .nx (ρ1.set i (.val d)) else .stuck
    | none => .stuck
theorem put_run {i : Nat} {x : X} {v : V} {D : Ends} (R : Rl K F G H σ ρ) (hx : RepX K F G H σ ρ v x) (w : WS K E F D (putX i x ρ)) : D.nx (σ.set i (some v)) H := by
  unfold putX at w
  cases x with
  | val d =>
    dsimp only at w
    split at w
    · rename_i hf
      exact w _ G H (R.put hf ⟨v, rfl, hx⟩ rfl fun o e => by cases e)
    · exact w.elim
  | new o =>
    dsimp only at w
    split at w
    · rename_i hf
      obtain ⟨a, rfl, h0, hg, ho, n⟩ := hx
      exact w _ G H (R.put hf ⟨a, rfl, h0, hg, ho⟩ rfl fun o e j o' hj hr => n j o' hr)
    · exact w.elim
  | own j =>
    dsimp only at w
    split at w
    · rename_i d ρ1 e
      obtain ⟨G', R', s, r⟩ := R.toVal hx e
      split at w
      · rename_i hf
        exact w _ G' H (R'.put hf ⟨v, rfl, r⟩ rfl fun o e => by cases e)
      · exact w.elim
    · exact w.elim
def sSet (i : Nat) (A : En → Res X) : En → SR := fun ρ => (A ρ).sb fun a ρ1 => putX i a ρ1
theorem L_set {i : Nat} (ha : LE K E ta A) : LS K E (tAsg ta (gName i)) (sSet i A) := by
  intro F G H σ ρ D R w
  exact ha F G H σ ρ _ R (w.sb fun b a G' H' ρ' R' _ hx w' => put_run R' hx w')
abbrev Tg := D → En → Option En
def LTg (K : Fg) (vs : List Nat) (g : TG) (U : Tg) : Prop := ∀ (F : Fm) (G H : Hp) (σ : L2.St) (ρ ρ' : En) (v : V) (d : D) (Q : L2.St → Hp → Prop), Rl K F G H σ ρ → Rep K G v d → U d ρ = some ρ' →
  (∀ σ', Rl K F G H σ' ρ' → wipe σ' vs = wipe σ vs → Q σ' H) → g v σ H Q
@[simp] def uName (i : Nat) : Tg := fun d ρ => if freeAt ρ i then some (ρ.set i (.val d)) else none
theorem wipe_set : ∀ {vs : List Nat} {i : Nat} {σ : L2.St} {x : Option V}, i ∈ vs → wipe (σ.set i x) vs = wipe σ vs
  | v :: vs, i, σ, x, h => by
    by_cases q : i ∈ vs
    · show (wipe (σ.set i x) vs).set v none = (wipe σ vs).set v none
      rw [wipe_set q]
    · have e : i = v := by
        rcases List.mem_cons.mp h with h | h
        · exact h
        · exact absurd h q
      subst e
      show (wipe (σ.set i x) vs).set i none = (wipe σ vs).set i none
      apply List.ext_getElem?
      intro j
      by_cases e : i = j
      · subst e
        by_cases hl : i < (wipe σ vs).length
        · rw [List.getElem?_set_self hl, List.getElem?_set_self (by rw [wipe_length] at hl ⊢; simpa using hl)]
        · rw [List.getElem?_eq_none (by rw [List.length_set, wipe_length, List.length_set]; rw [wipe_length] at hl; omega), List.getElem?_eq_none (by rw [List.length_set]; omega)]
      · rw [List.getElem?_set_ne e, List.getElem?_set_ne e]
        have : ∀ (ws : List Nat) (τ : L2.St), i ∉ ws → (wipe (τ.set i x) ws)[j]? = (wipe τ ws)[j]? := by
          intro ws
          induction ws with
          | nil => intro τ _; show (τ.set i x)[j]? = τ[j]?; rw [List.getElem?_set_ne e]
          | cons w ws ih =>
            intro τ hn
            show ((wipe (τ.set i x) ws).set w none)[j]? = ((wipe τ ws).set w none)[j]?
            by_cases q2 : w = j
            · subst q2
              by_cases hl : w < τ.length
              · rw [List.getElem?_set_self (by rw [wipe_length]; simpa using hl), List.getElem?_set_self (by rw [wipe_length]; exact hl)]
              · rw [List.getElem?_eq_none (by rw [List.length_set, wipe_length, List.length_set]; omega), List.getElem?_eq_none (by rw [List.length_set, wipe_length]; omega)]
            · rw [List.getElem?_set_ne q2, List.getElem?_set_ne q2]
              exact ih τ fun z => hn (List.mem_cons_of_mem _ z)
        exact this vs σ q
theorem U_name {vs : List Nat} {i : Nat} (hi : i ∈ vs) : LTg K vs (gName i) (uName i) := by
  intro F G H σ ρ ρ' v d Q R hr e q
  unfold uName at e
  split at e
  · rename_i hf
    cases e
    exact q _ (R.put hf ⟨v, rfl, hr⟩ rfl fun o e => by cases e) (wipe_set hi)
  · cases e
abbrev Tgs := List D → En → Option En
@[simp] def usNil : Tgs := fun ds ρ => match ds with
  | [] => some ρ
  | _ => none
@[simp] def usCons (U : Tg) (Us : Tgs) : Tgs := fun ds ρ => match ds with
  | d :: ds => (U d ρ).bind fun ρ1 => Us ds ρ1
  | [] => none
@[simp] def uTup (n : Nat) (Us : Tgs) : Tg := fun d ρ => match d with
  | .tup ds => if ds.length = n then Us ds ρ else none
  | _ => none
def sTgt (U : Tg) (A : En → Res X) : En → SR := fun ρ => (A ρ).sb fun a ρ1 => match toVal ρ1 a with
  | some (d, ρ2) => match U d ρ2 with
    | some ρ3 => .nx ρ3
    | none => .stuck
  | none => .stuck
end
end DL
set_option Elab.async false
set_option linter.all false
set_option maxRecDepth 100000
set_option maxHeartbeats 2000000
namespace DL
open PySem PySem.Spec PyProof.Rows L2 DD
section
variable {K : Fg} {E : XK} {F : Fm} {G G' H H' : Hp} {σ : L2.St} {ρ ρ' : En} {ta tb : TE} {A B : En → Res X} {t : TA} {T : En → Res (List X)}
abbrev Mu := List D → List D → Option (D × List D)
@[simp] def lstAt (ρ : En) (i : Nat) : Option (List D) := match ρ[i]? with
  | some (.own (.lst ds)) | some (.bor (.lst ds)) => some ds
  | _ => none
@[simp] def setAt (ρ : En) (i : Nat) (ds : List D) : En := match ρ[i]? with
  | some (.own _) => ρ.set i (.own (.lst ds))
  | some (.bor _) => ρ.set i (.bor (.lst ds))
  | _ => ρ
theorem Rl.lstAt {i : Nat} {ds : List D} (R : Rl K F G H σ ρ) (h : lstAt ρ i = some ds) : ∃ s a vs, ρ[i]? = some s ∧ s.co = some (.lst ds) ∧ σ[i]? = some (some (.ref a)) ∧ G a = none ∧ H a = some (.lst vs) ∧ RepA K G vs ds := by
  unfold DL.lstAt at h
  split at h
  · rename_i ds' e
    cases h
    obtain ⟨a, h1, _, h2, vs, h3, h4⟩ := R.own e
    exact ⟨_, a, vs, e, rfl, h1, h2, h3, h4⟩
  · rename_i ds' e
    cases h
    obtain ⟨a, h1, _, h2, vs, h3, h4⟩ := R.bor e
    exact ⟨_, a, vs, e, rfl, h1, h2, h3, h4⟩
  · cases h
theorem Rl.setAt {i : Nat} {ds ds' : List D} {a : Addr} {ws : List V} (R : Rl K F G H σ ρ) (h : DL.lstAt ρ i = some ds) (ha : σ[i]? = some (some (.ref a))) (r : RepA K G ws ds') : Rl K F G (upd H a (.lst ws)) σ (DL.setAt ρ i ds') := by
  obtain ⟨s, b, vs, h1, h2, h3, h4, h5, h6⟩ := R.lstAt h
  rw [ha] at h3
  cases h3
  rcases co_cases h2 with rfl | rfl
  · have R' := R.mut h1 (s' := .own (.lst ds')) rfl ha ⟨ws, upd_same, r⟩
    have e : DL.setAt ρ i ds' = ρ.set i (.own (.lst ds')) := by
      unfold DL.setAt
      rw [h1]
    rw [e]
    exact R'
  · have R' := R.mut h1 (s' := .bor (.lst ds')) rfl ha ⟨ws, upd_same, r⟩
    have e : DL.setAt ρ i ds' = ρ.set i (.bor (.lst ds')) := by
      unfold DL.setAt
      rw [h1]
    rw [e]
    exact R'
def eMut (i : Nat) (f : Mu) (T : En → Res (List X)) : En → Res X := fun ρ => match lstAt ρ i with
  | none => .stuck
  | some _ => (T ρ).bind fun xs ρ1 => match toVals ρ1 xs with
    | none => .stuck
    | some (as, ρ2) => match lstAt ρ2 i with
      | none => .stuck
      | some ds => match f ds as with
        | none => .stuck
        | some (z, ds') => .ok (.val z) (setAt ρ2 i ds')
@[simp] def mAppend : Mu := fun ds as => match as with
  | [d] => if ds.length < sizeLine then some (.non, ds ++ [d]) else none
  | _ => none
@[simp] def mExtend : Mu := fun ds as => match as with
  | [.lst es] => if ds.length + es.length ≤ sizeLine then some (.non, ds ++ es) else none
  | _ => none
@[simp] def mPop : Mu := fun ds as => match as with
  | [.int i] => if -(2 ^ 63) ≤ i ∧ i < 2 ^ 63 then (seqIndex? i ds.length).bind fun k => (ds[k]?).map fun d => (d, ds.eraseIdx k) else none
  | _ => none
@[simp] def mPop0 : Mu := fun ds as => match as with
  | [] => (ds[ds.length - 1]?).map fun d => (d, ds.dropLast)
  | _ => none
def sPut (i : Nat) (A B : En → Res X) : En → SR := fun ρ => (A ρ).sb fun a ρ1 => match toVal ρ1 a with
  | none => .stuck
  | some (d, ρ2) => match lstAt ρ2 i with
    | none => .stuck
    | some _ => (B ρ2).sb fun b ρ3 => match asI ρ3 b, lstAt ρ3 i with
      | some k, some ds => match ixN ds.length k with
        | some j => .nx (setAt ρ3 i (ds.set j d))
        | none => .stuck
      | _, _ => .stuck
theorem L_put {i : Nat} (ha : LE K E ta A) (hb : LE K E tb B) : LS K E (tAsg ta (gSub (tVar i) tb rSetL)) (sPut i A B) := by
  intro F G H σ ρ D R w
  refine ha F G H σ ρ _ R (w.sb fun v a G1 H1 ρ1 R1 s1 hx w1 => ?_)
  cases e : toVal ρ1 a with
  | none => rw [e] at w1; exact w1.elim
  | some p =>
    obtain ⟨d, ρ2⟩ := p
    rw [e] at w1
    dsimp only at w1
    obtain ⟨G2, R2, s2, r2⟩ := R1.toVal hx e
    cases e0 : lstAt ρ2 i with
    | none => rw [e0] at w1; exact w1.elim
    | some ds0 =>
      rw [e0] at w1
      dsimp only at w1
      obtain ⟨s, b, vs, h1, h2, h3, h4, h5, h6⟩ := R2.lstAt e0
      refine ⟨_, h3, hb F G2 H1 σ ρ2 _ R2 (w1.sb fun y k G3 H3 ρ3 R3 s3 hy w3 => ?_)⟩
      cases e1 : asI ρ3 k with
      | none => rw [e1] at w3; exact w3.elim
      | some n =>
        cases e2 : lstAt ρ3 i with
        | none => rw [e1, e2] at w3; exact w3.elim
        | some ds =>
          rw [e1, e2] at w3
          dsimp only at w3
          cases e3 : ixN ds.length n with
          | none => rw [e3] at w3; exact w3.elim
          | some j =>
            rw [e3] at w3
            obtain ⟨s', c, ws, g1, g2, g3, g4, g5, g6⟩ := R3.lstAt e2
            rw [h3] at g3
            cases g3
            exact ⟨b, ws, n, j, rfl, R3.asI hy e1, g5, by rw [g6.len]; exact e3, w3 _ _ _ (R3.setAt e2 h3 (g6.set j (r2.mono s3)))⟩
@[simp] def getF (f : Str) : List Str → List D → Option D
  | k :: ks, d :: ds => if k = f then some d else getF f ks ds
  | _, _ => none
def dFld (Cs : List Addr) (f : Str) (A : En → Res X) : En → Res X := fun ρ => (A ρ).bind fun a ρ1 => match deref ρ1 a with
  | some (.ins C ks ds) => if C ∈ Cs then lift ((getF f ks ds).map X.val) ρ1 else .stuck
  | _ => .stuck
@[simp] def putFD (f : Str) (d : D) : List Str → List D → List Str × List D
  | k :: ks, e :: ds => if k = f then (k :: ks, d :: ds) else ((k :: (putFD f d ks ds).1), (e :: (putFD f d ks ds).2))
  | _, _ => ([f], [d])
@[simp] def insAt (ρ : En) (i : Nat) : Option (Addr × List Str × List D) := match ρ[i]? with
  | some (.own (.ins C ks ds)) | some (.bor (.ins C ks ds)) => some (C, ks, ds)
  | _ => none
@[simp] def setIns (ρ : En) (i : Nat) (o : O) : En := match ρ[i]? with
  | some (.own _) => ρ.set i (.own o)
  | some (.bor _) => ρ.set i (.bor o)
  | _ => ρ
def sFldD (Cs : List Addr) (i : Nat) (f : Str) (A : En → Res X) : En → SR := fun ρ => (A ρ).sb fun a ρ1 => match toVal ρ1 a with
  | none => .stuck
  | some (d, ρ2) => match insAt ρ2 i with
    | some (C, ks, ds) => if C ∈ Cs ∧ ks.length < 1000 then .nx (setIns ρ2 i (.ins C (putFD f d ks ds).1 (putFD f d ks ds).2)) else .stuck
    | none => .stuck
def newAt (x : X) : Bool := match x with
  | .new _ => true
  | _ => false
/-- values one beside the other, new ones among them -/
inductive RepXn (K : Fg) (F : Fm) (G H : Hp) (σ : L2.St) (ρ : En) : List V → List X → Prop
  | nil : RepXn K F G H σ ρ [] []
  | cons {v : V} {vs : List V} {x : X} {xs : List X} : RepX K F G H σ ρ v x → (newAt x = true → ∀ (j : Nat) (y : X), xs[j]? = some y → newAt y = true → vs[j]? ≠ some v) → RepXn K F G H σ ρ vs xs → RepXn K F G H σ ρ (v :: vs) (x :: xs)
theorem RepXn.get : ∀ {vs : List V} {xs : List X} {j : Nat} {y : X}, RepXn K F G H σ ρ vs xs → xs[j]? = some y → ∃ v, vs[j]? = some v ∧ RepX K F G H σ ρ v y
  | _, _, _, _, .nil, e => by simp at e
  | _, _, 0, _, .cons h _ _, e => by simp at e; subst e; exact ⟨_, rfl, h⟩
  | _, _, j + 1, _, .cons _ _ r, e => by
    obtain ⟨v, h1, h2⟩ := r.get (j := j) (by simpa using e)
    exact ⟨v, by simpa using h1, h2⟩
def nCons (A : En → Res X) (T : En → Res (List X)) : En → Res (List X) := fun ρ => (A ρ).bind fun a ρ1 => match a with
  | .own j => match toVal ρ1 (.own j) with
    | some (d, ρ2) => (T ρ2).bind fun as ρ3 => .ok (.val d :: as) ρ3
    | none => .stuck
  | a => (T ρ1).bind fun as ρ2 => .ok (a :: as) ρ2
theorem RepXn.unhold {a : Addr} {o : HO} (h0 : F.H0 a = none) : ∀ {vs : List V} {xs : List X}, RepXn K (F.hold a o) G H σ ρ vs xs → RepXn K F G H σ ρ vs xs
  | _, _, .nil => .nil
  | _, _, .cons h n r => .cons (h.unhold h0) n (r.unhold h0)
@[simp] def puts : List Nat → List X → En → SR
  | [], [], ρ => .nx ρ
  | i :: is, .val d :: xs, ρ => if freeAt ρ i then puts is xs (ρ.set i (.val d)) else .stuck
  | i :: is, .new o :: xs, ρ => if freeAt ρ i then puts is xs (ρ.set i (.own o)) else .stuck
  | _, _, _ => .stuck
theorem RepXn.put {i : Nat} {v : V} {s : Slot} (hs : ∀ o, s = .own o → ∃ a, v = .ref a) (hv : ∀ o, s = .own o → True) (hl : i < ρ.length) (hl' : i < σ.length) : ∀ {vs : List V} {xs : List X}, RepXn K F G H σ ρ vs xs → (∀ o, s = .own o → ∀ (j : Nat) (y : X), xs[j]? = some y → newAt y = true → vs[j]? ≠ some v) → (∀ (j : Nat) (y : X), xs[j]? = some y → ∀ k, y ≠ .own k) → RepXn K F G H (σ.set i (some v)) (ρ.set i s) vs xs
  | _, _, .nil, _, _ => .nil
  | w :: vs, x :: xs, .cons h n r, q, no => by
    refine .cons ?_ n (r.put hs hv hl hl' (fun o e j y hj hn => q o e (j + 1) y (by simpa using hj) hn) (fun j y hj => no (j + 1) y (by simpa using hj)))
    cases x with
    | val d => exact h
    | own k => exact absurd rfl (no 0 _ rfl k)
    | new o =>
      obtain ⟨a, rfl, h0, hg, ho, nn⟩ := h
      refine ⟨a, rfl, h0, hg, ho, fun j u hj z => ?_⟩
      rcases getset hj with ⟨rfl, e, _⟩ | ⟨ne, hj⟩
      · rw [List.getElem?_set_self hl'] at z
        cases z
        exact q u e 0 _ rfl rfl rfl
      · rw [List.getElem?_set_ne ne] at z
        exact nn j u hj z
def sMulti (is : List Nat) (T : En → Res (List X)) : En → SR := fun ρ => (T ρ).sb fun xs ρ1 => puts is xs ρ1
theorem RepXn.len : ∀ {vs : List V} {xs : List X}, RepXn K F G H σ ρ vs xs → vs.length = xs.length
  | _, _, .nil => rfl
  | _, _, .cons _ _ r => by rw [List.length_cons, List.length_cons, r.len]
end
end DL
set_option Elab.async false
set_option linter.all false
set_option maxRecDepth 100000
set_option maxHeartbeats 2000000
namespace DL
open PySem PySem.Spec PyProof.Rows L2 DD
section
variable {K : Fg} {E : XK} {F : Fm} {G G' H H' : Hp} {σ σ' : L2.St} {ρ ρ' : En} {ta tb : TE} {A B : En → Res X} {t : TA} {T : En → Res (List X)}
/-- what an iterator hands on, turn by turn, while P holds of the heap -/
structure Its (K : Fg) (P : Hp → Prop) (G1 : Hp) (J : It) (ds : List D) : Prop where
  go : ∀ G H, Same G1 G → Same G H → P H → ∀ i, i < ds.length → J.go i H
  stop : ∀ G H, Same G1 G → Same G H → P H → ∀ i, ds.length ≤ i → J.stop i H
  yld : ∀ F G H σ ρ, Rl K F G H σ ρ → Same G1 G → P H → ∀ i x H', i < ds.length → J.yld i H x H' → ∃ G', Rl K F G' H' σ ρ ∧ Same G G' ∧ (∀ u, Same H u → Same H H' ∨ True) ∧ Same H H' ∧ ∃ d, ds[i]? = some d ∧ Rep K G' x d
abbrev LI (K : Fg) (E : XK) (wi : TI) (S : En → Res (List D)) : Prop := LG K E (fun _ G _ _ _ J ds => Its K (fun _ => True) G J ds) wi S
theorem its_rng {lo : Int} {n : Nat} {G1 : Hp} : Its K (fun _ => True) G1 (Itr lo n) ((List.range n).map fun i => D.int (lo + (i : Nat))) where
  go := fun G H e k p i hi => by
    rw [List.length_map, List.length_range] at hi
    exact hi
  stop := fun G H e k p i hi => by
    rw [List.length_map, List.length_range] at hi
    exact hi
  yld := fun F G H σ ρ R e p i x H' hi hy => by
    obtain ⟨rfl, rfl⟩ := hy
    rw [List.length_map, List.length_range] at hi
    refine ⟨G, R, Same.refl G, fun _ _ => .inr trivial, Same.refl _, D.int (lo + i), ?_, .int _⟩
    rw [List.getElem?_map, List.getElem?_range hi]
    rfl
/-- a list or a tuple, frozen -/
def iSeq (K : Fg) (tl : TE) : TI := fun σ H R => tl σ H fun x H1 => ∃ a, x = .ref a ∧ (((∃ xs, SqL K H1 a xs) ∧ R (Itl K a) H1) ∨ ((∃ xs, SqT K H1 a xs) ∧ R (Itt K a) H1))
theorem pi_seq {X : Cx} {K : Fg} {tg l : Expr} {tl : TE} (hl : PE X l tl) (h : X.K = K := by rfl) : PI X tg l (iSeq K tl) := by
  subst h
  refine ⟨fun pins s σ H R I h => ?_⟩
  refine thn (hl.run pins s σ H _ I h) fun v s1 ⟨x, H1, I1, r1, q1⟩ => ?_
  obtain ⟨a, e, q⟩ := q1
  subst e
  rcases q with ⟨⟨xs, hq⟩, q⟩ | ⟨⟨xs, hq⟩, q⟩
  · cases r1
    obtain ⟨its, rv, p, hz⟩ := I1.list hq
    refine wpAny_pyIter_list p.isList ?_
    refine ⟨s1.heap.objs.size, [s1.heap.objs.size], _, _, H1, rfl, I1.kept (t' := s1.toks) fun b o e => Heap.get?_push_of_some _ e, turn_list a _, ⟨_, Heap.get?_push_size _ rfl, rfl, rfl⟩, fun b hb => ?_, q⟩
    have e : b = s1.heap.objs.size := by simpa using hb
    subst e
    exact I1.fpOk (Nat.le_refl _) (I1.hok.fresh (Nat.le_refl _))
  · cases r1
    obtain ⟨its, rv, p, hz⟩ := I1.tuple hq
    refine wpAny_pyIter_tuple (show s1.heap.IsTuple a its.toArray from p) ?_
    refine ⟨s1.heap.objs.size, [s1.heap.objs.size], _, _, H1, rfl, I1.kept (t' := s1.toks) fun b o e => Heap.get?_push_of_some _ e, turn_tuple a _, ⟨_, Heap.get?_push_size _ rfl, rfl, rfl⟩, fun b hb => ?_, q⟩
    have e : b = s1.heap.objs.size := by simpa using hb
    subst e
    exact I1.fpOk (Nat.le_refl _) (I1.hok.fresh (Nat.le_refl _))
def dRng1 (A : En → Res X) : En → Res (List D) := fun ρ => (A ρ).bind fun a ρ1 => match asI ρ1 a with
  | some j => if -(2 ^ 62) ≤ j ∧ j < 2 ^ 62 then .ok ((List.range j.toNat).map fun i => D.int (0 + (i : Nat))) ρ1 else .stuck
  | none => .stuck
def dRng2 (A B : En → Res X) : En → Res (List D) := fun ρ => (A ρ).bind fun a ρ1 => (B ρ1).bind fun b ρ2 => match asI ρ2 a.settle, asI ρ2 b with
  | some i, some j => if -(2 ^ 62) ≤ i ∧ i < 2 ^ 62 ∧ -(2 ^ 62) ≤ j ∧ j < 2 ^ 62 then .ok ((List.range (j - i).toNat).map fun n => D.int (i + (n : Nat))) ρ2 else .stuck
  | _, _ => .stuck
theorem I_rng1 (ha : LE K E ta A) : LI K E (iRng1 (tCons ta tNil)) (dRng1 A) := by
  intro F G H σ ρ Q R w
  refine ha F G H σ ρ _ R (Wants.bind w fun x a G1 H1 ρ1 R1 s1 hx w1 => ?_)
  cases e : asI ρ1 a with
  | none => rw [e] at w1; exact w1.elim
  | some j =>
    rw [e] at w1
    dsimp only at w1
    split at w1
    · rename_i hc
      exact ⟨j, by rw [R1.asI hx e], hc.1, hc.2, w1 _ G1 H1 R1 (Same.refl G1) its_rng⟩
    · exact w1.elim
def forL (U : Tg) (B : En → SR) : List D → En → SR
  | [], ρ => .nx ρ
  | d :: ds, ρ => match U d ρ with
    | none => .stuck
    | some ρ1 => match B ρ1 with
      | .nx ρ2 => forL U B ds ρ2
      | .ct ρ2 => forL U B ds ρ2
      | .bk ρ2 => .nx ρ2
      | r => r
theorem WS.back {D : Ends} (R : Rl K F G H σ ρ) : ∀ {r : SR}, WS K E F D r → WS K E (F.at G) D r
  | .nx ρ', w => fun σ' G' H' R' => w σ' G' H' (R.back R')
  | .bk ρ', w => fun σ' G' H' R' => w σ' G' H' (R.back R')
  | .ct ρ', w => fun σ' G' H' R' => w σ' G' H' (R.back R')
  | .rt x ρ', w => fun v σ' G' H' R' hx => w v σ' G' H' (R.back R') hx.at
  | .err x ρ', w => fun c od σ' G' H' R' hx => w c od σ' G' H' (R.back R') hx
  | .stuck, w => w
theorem for_core {u : TS} {U : Tg} {B : En → SR} {g : TG} {vs : List Nat} {D : Ends} {J : It} {ds : List DL.D} {P : Hp → Prop} (hb : LS K E u B) (hg : LTg K vs g U) (R : Rl K F G H σ ρ) (hI : Its K P G J ds)
    (hP : ∀ G' H' σ' ρ', Rl K (F.at G) G' H' σ' ρ' → P H') (w : WS K E F D (forL U B ds ρ)) :
    ∃ W : Nat → Nat → L2.St → Hp → Prop, (∃ m, W 0 m σ H) ∧ ∀ i m σ H, W i m σ H →
      (J.stop i H ∧ D.nx σ H) ∨ (J.go i H ∧ ∃ N : L2.St → Hp → Prop, (∀ σ' H', N σ' H' → ∃ m', m' < m ∧ W (i + 1) m' σ' H') ∧ ∀ x H', J.yld i H x H' → g x σ H' fun σ2 H2 => u { D with nx := N, ct := N, bk := D.nx } σ2 H2) := by
  refine ⟨fun i m σ' H' => ∃ G' ρ', Rl K (F.at G) G' H' σ' ρ' ∧ i + m = ds.length ∧ WS K E (F.at G) D (forL U B (ds.drop i) ρ'), ⟨ds.length, G, ρ, R.at, by omega, w.back R⟩, ?_⟩
  rintro i m σ' H' ⟨G', ρ', R', hm, w'⟩
  cases m with
  | zero =>
    rw [List.drop_eq_nil_of_le (by omega)] at w'
    exact .inl ⟨hI.stop G' H' R'.g0 R'.gh (hP _ _ _ _ R') i (by omega), w' σ' G' H' R'⟩
  | succ m =>
    have hi : i < ds.length := by omega
    rw [List.drop_eq_getElem_cons hi] at w'
    refine .inr ⟨hI.go G' H' R'.g0 R'.gh (hP _ _ _ _ R') i hi, fun σ2 H2 => ∃ G2 ρ2, Rl K (F.at G) G2 H2 σ2 ρ2 ∧ WS K E (F.at G) D (forL U B (ds.drop (i + 1)) ρ2), fun σ2 H2 ⟨G2, ρ2, R2, w2⟩ => ⟨m, by omega, G2, ρ2, R2, by omega, w2⟩, fun x H3 hy => ?_⟩
    obtain ⟨G3, R3, s3, _, k3, d, hd, hr⟩ := hI.yld _ _ _ _ _ R' R'.g0 (hP _ _ _ _ R') i x H3 hi hy
    rw [List.getElem?_eq_getElem hi] at hd
    cases hd
    unfold forL at w'
    cases e : U ds[i] ρ' with
    | none => rw [e] at w'; exact w'.elim
    | some ρ1 =>
      rw [e] at w'
      dsimp only at w'
      refine hg _ _ _ _ _ ρ1 x _ _ R3 hr e fun σ4 R4 _ => hb _ _ _ _ ρ1 _ R4 ?_
      cases e2 : B ρ1 with
      | nx ρ2 => rw [e2] at w'; exact fun σ5 G5 H5 R5 => ⟨G5, ρ2, R5, w'⟩
      | ct ρ2 => rw [e2] at w'; exact fun σ5 G5 H5 R5 => ⟨G5, ρ2, R5, w'⟩
      | bk ρ2 => rw [e2] at w'; exact w'
      | rt y ρ2 => rw [e2] at w'; exact w'
      | err y ρ2 => rw [e2] at w'; exact w'
      | stuck => rw [e2] at w'; exact w'
def sFor (S : En → Res (List D)) (U : Tg) (B : En → SR) : En → SR := fun ρ => (S ρ).sb fun ds ρ1 => forL U B ds ρ1
theorem L_for {wi : TI} {S : En → Res (List D)} {u : TS} {U : Tg} {B : En → SR} {g : TG} {vs : List Nat} (hi : LI K E wi S) (hg : LTg K vs g U) (hb : LS K E u B) : LS K E (tFor wi g u) (sFor S U B) := by
  intro F G H σ ρ D R w
  exact hi F G H σ ρ _ R (w.sb fun J ds G1 H1 ρ1 R1 s1 hI w1 => for_core hb hg R1 hI (fun _ _ _ _ _ => trivial) w1)
@[simp] def unlockE (ρ : En) (i : Nat) : En := match ρ[i]? with
  | some (.lck o) => ρ.set i (.own o)
  | _ => ρ
@[simp] def SR.unlock (i : Nat) : SR → SR
  | .nx ρ => .nx (unlockE ρ i)
  | .bk ρ => .bk (unlockE ρ i)
  | .ct ρ => .ct (unlockE ρ i)
  | .rt x ρ => .rt x (unlockE ρ i)
  | .err x ρ => .err x (unlockE ρ i)
  | .stuck => .stuck
def Fm.lock (F : Fm) (i : Nat) (a : Addr) (o : HO) : Fm := { F with H0 := upd F.H0 a o, L := fun j => if j = i then some a else F.L j }
theorem Rl.lock {i : Nat} {o : O} {u : HO} {a : Addr} (R : Rl K F G H σ ρ) (h : ρ[i]? = some (.own o)) (ha : σ[i]? = some (some (.ref a))) (hu : H a = some u) : Rl K (F.lock i a u) G H σ (ρ.set i (.lck o)) := by
  obtain ⟨b, h1, h0, hg, ho⟩ := R.own h
  rw [ha] at h1
  cases h1
  have hil : i < ρ.length := (List.getElem?_eq_some_iff.mp h).1
  have n : ∀ (j : Nat) (w : O), (ρ.set i (.lck o))[j]? = some (.own w) → σ[j]? ≠ some (some (.ref a)) := fun j w hj z => by
    rcases getset hj with ⟨_, e, _⟩ | ⟨ne, hj⟩
    · cases e
    · exact ne (R.di i j _ _ a h hj ha z)
  have hf : freeAt ρ i = true := by unfold freeAt; rw [h]; rfl
  have eσ : σ.set i (some (.ref a)) = σ := by
    apply List.ext_getElem?
    intro j
    by_cases e : i = j
    · subst e
      rw [List.getElem?_set_self (R.lt hil), ha]
    · rw [List.getElem?_set_ne e]
  have R1 : Rl K F G H σ (ρ.set i .none) := by
    have := R.forget (i := i) (x := some (.ref a)) hf
    rw [eσ] at this
    exact this
  have n1 : ∀ (j : Nat) (w : O), (ρ.set i Slot.none)[j]? = some (.own w) → σ[j]? ≠ some (some (.ref a)) := fun j w hj z => by
    rcases getset hj with ⟨_, e, _⟩ | ⟨ne, hj⟩
    · cases e
    · exact ne (R.di i j _ _ a h hj ha z)
  have R2 := R1.hold hu h0 hg n1
  refine ⟨R2.gh, R2.g0, R2.gn, R2.hk, fun j b hb => ?_, fun j b hb => ?_, fun j s hs => ?_, fun j k w w' b h1 h2 h3 h4 => ?_, R2.mi, R2.tb⟩
  · obtain ⟨g1, g2, w, g3⟩ := R2.hm j b hb
    refine ⟨g1, g2, w, ?_⟩
    by_cases q : i = j
    · subst q
      rw [List.getElem?_set_self hil] at g3
      cases g3
    · rw [List.getElem?_set_ne q] at g3 ⊢
      exact g3
  · by_cases q : j = i
    · subst q
      exact ⟨o, List.getElem?_set_self hil⟩
    · have hb' : F.L j = some b := by
        rw [show (F.lock i a u).L j = if j = i then some a else F.L j from rfl, if_neg q] at hb
        exact hb
      obtain ⟨w, g3⟩ := R.hl j b hb'
      exact ⟨w, by rw [List.getElem?_set_ne (Ne.symm q)]; exact g3⟩
  · rcases getset hs with ⟨rfl, rfl, _⟩ | ⟨ne, hs⟩
    · refine ⟨_, ha, a, u, rfl, ?_, hg, upd_same, R.noM h0, ho⟩
      show (if i = i then some a else F.L i) = some a
      rw [if_pos rfl]
    · obtain ⟨x, g1, g2⟩ := R2.sl j s (by rw [List.getElem?_set_ne ne]; exact hs)
      refine ⟨x, g1, ?_⟩
      cases s with
      | none => trivial
      | val d => exact g2
      | own w => exact g2
      | bor w => exact g2
      | lck w =>
        obtain ⟨b, u', rfl, e2, e3, e5, e6, e4⟩ := g2
        refine ⟨b, u', rfl, ?_, e3, e5, e6, e4⟩
        show (if j = i then some a else F.L j) = some b
        rw [if_neg (Ne.symm ne)]
        exact e2
  · rcases getset h1 with ⟨_, e, _⟩ | ⟨n1, h1'⟩
    · cases e
    · rcases getset h2 with ⟨_, e, _⟩ | ⟨n2, h2'⟩
      · cases e
      · exact R.di j k w w' b h1' h2' h3 h4
theorem Rl.unlock {i : Nat} {u : HO} {a : Addr} (R : Rl K (F.lock i a u) G H σ ρ) (h0 : F.H0 a = none) (hL : F.L i = none) (hl : ∀ j, F.L j ≠ some a) (hm : ∀ j, F.M j ≠ some a) : Rl K F G H σ (unlockE ρ i) ∧ ∃ o, ρ[i]? = some (.lck o) := by
  obtain ⟨o, ho⟩ := R.hl i a (by show (if i = i then some a else F.L i) = some a; rw [if_pos rfl])
  refine ⟨?_, o, ho⟩
  have hil : i < ρ.length := (List.getElem?_eq_some_iff.mp ho).1
  have e : unlockE ρ i = ρ.set i (.own o) := by unfold unlockE; rw [ho]
  rw [e]
  obtain ⟨x, hx, b, u', rfl, hb, hg, hu', hM, hO⟩ := R.sl i _ ho
  have hba : b = a := by
    have : (if i = i then some a else F.L i) = some b := hb
    rw [if_pos rfl] at this
    exact (Option.some.inj this).symm
  subst hba
  have up : ∀ c, c ≠ b → (F.lock i b u).H0 c = F.H0 c := fun c q => upd_ne q
  have nown : ∀ (j : Nat) (w : O), ρ[j]? = some (.own w) → σ[j]? ≠ some (some (.ref b)) := fun j w hj z => by
    obtain ⟨c, g1, g2, _⟩ := R.own hj
    rw [g1] at z
    cases z
    rw [show (F.lock i b u).H0 b = some u from upd_same] at g2
    cases g2
  refine ⟨R.gh, R.g0, fun c w hc hc' => ?_, fun c w hc hc' => R.hk c w (by rw [up c (ne_of_none hc h0)]; exact hc) hc', fun j c hc => ?_, fun j c hc => ?_, fun j s hs => ?_, fun j k w w' c h1 h2 h3 h4 => ?_, R.mi, R.tb⟩
  · by_cases q : c = b
    · rw [q]; exact h0
    · have := R.gn c w hc hc'
      rw [up c q] at this
      exact this
  · obtain ⟨g1, g2, w, g3⟩ := R.hm j c hc
    refine ⟨g1, ?_, w, ?_⟩
    · rw [up c (fun q => hm j (by rw [← q]; exact hc))] at g2
      exact g2
    · rw [List.getElem?_set_ne (fun q => by rw [← q, ho] at g3; cases g3)]
      exact g3
  · have ne : j ≠ i := fun q => by rw [q, hL] at hc; cases hc
    obtain ⟨w, g⟩ := R.hl j c (by show (if j = i then some b else F.L j) = some c; rw [if_neg ne]; exact hc)
    exact ⟨w, by rw [List.getElem?_set_ne (Ne.symm ne)]; exact g⟩
  · rcases getset hs with ⟨rfl, rfl, _⟩ | ⟨ne, hs⟩
    · exact ⟨_, hx, b, rfl, h0, hg, hO⟩
    · obtain ⟨x, g1, g2⟩ := R.sl j s hs
      refine ⟨x, g1, ?_⟩
      cases s with
      | none => trivial
      | val d => exact g2
      | own w =>
        obtain ⟨c, rfl, e2, e3, e4⟩ := g2
        refine ⟨c, rfl, ?_, e3, e4⟩
        rw [up c (fun q => nown j w hs (by rw [g1, q]))] at e2
        exact e2
      | bor w => exact g2
      | lck w =>
        obtain ⟨c, y, rfl, e2, e3, e5, e6, e4⟩ := g2
        have e2' : F.L j = some c := by
          have : (if j = i then some b else F.L j) = some c := e2
          rw [if_neg (Ne.symm ne)] at this
          exact this
        refine ⟨c, y, rfl, e2', e3, ?_, e6, e4⟩
        rw [up c (fun q => hl j (by rw [← q]; exact e2'))] at e5
        exact e5
  · rcases getset h1 with ⟨rfl, _, _⟩ | ⟨n1, h1'⟩
    · rcases getset h2 with ⟨rfl, _, _⟩ | ⟨n2, h2'⟩
      · rfl
      · rw [hx] at h3
        cases h3
        exact absurd h4 (nown k w' h2')
    · rcases getset h2 with ⟨rfl, _, _⟩ | ⟨n2, h2'⟩
      · rw [hx] at h4
        cases h4
        exact absurd h3 (nown j w h1')
      · exact R.di j k w w' c h1' h2' h3 h4
theorem RepX.unlock {i : Nat} {u : HO} {a : Addr} {v : V} {x : X} (h : RepX K (F.lock i a u) G H σ ρ v x) (h0 : F.H0 a = none) (hx : ∀ o, ρ[i]? = some (.lck o) → ∃ b, σ[i]? = some (some (.ref b)) ∧ b = a) (ho : ∃ o, ρ[i]? = some (.lck o)) : RepX K F G H σ (unlockE ρ i) v x := by
  cases x with
  | val d => exact h
  | own j => exact h
  | new o =>
    obtain ⟨b, rfl, e2, e3, e4, e5⟩ := h
    have q : b ≠ a := fun q => by
      rw [q, show (F.lock i a u).H0 a = some u from upd_same] at e2
      cases e2
    refine ⟨b, rfl, ?_, e3, e4, fun j w hj z => ?_⟩
    · rw [show (F.lock i a u).H0 b = F.H0 b from upd_ne q] at e2
      exact e2
    · obtain ⟨o', ho'⟩ := ho
      have : unlockE ρ i = ρ.set i (.own o') := by unfold unlockE; rw [ho']
      rw [this] at hj
      rcases getset hj with ⟨rfl, _, _⟩ | ⟨ne, hj⟩
      · obtain ⟨c, g1, g2⟩ := hx o' ho'
        rw [g1] at z
        cases z
        exact q g2
      · exact e5 j w hj z
@[simp] def seqOf (A : En → Res X) : En → Res (Option Nat × List D) := fun ρ => (A ρ).bind fun a ρ1 => match a with
  | .val d => lift (d.items.map fun ds => (none, ds)) ρ1
  | .new o => lift (o.d.items.map fun ds => (none, ds)) ρ1
  | .own i => match ρ1[i]? with
    | some (.val d) => lift (d.items.map fun ds => (none, ds)) ρ1
    | some (.own (.lst ds)) => .ok (some i, ds) (ρ1.set i (.lck (.lst ds)))
    | _ => .stuck
def sForS (A : En → Res X) (U : Tg) (B : En → SR) : En → SR := fun ρ => (seqOf A ρ).sb fun p ρ1 => match p.1 with
  | none => forL U B p.2 ρ1
  | some i => (forL U B p.2 ρ1).unlock i
theorem WS.unlock {i : Nat} {u : HO} {a : Addr} {D : Ends} (h0 : F.H0 a = none) (hL : F.L i = none) (hl : ∀ j, F.L j ≠ some a) (hm : ∀ j, F.M j ≠ some a) : ∀ {r : SR}, WS K E F D (r.unlock i) → WS K E (F.lock i a u) D r
  | .nx ρ', w => fun σ' G' H' R' => w σ' G' H' (R'.unlock h0 hL hl hm).1
  | .bk ρ', w => fun σ' G' H' R' => w σ' G' H' (R'.unlock h0 hL hl hm).1
  | .ct ρ', w => fun σ' G' H' R' => w σ' G' H' (R'.unlock h0 hL hl hm).1
  | .rt x ρ', w => fun v σ' G' H' R' hx => w v σ' G' H' (R'.unlock h0 hL hl hm).1 (hx.unlock h0 (fun o ho => by
      obtain ⟨x, g, b, u', rfl, hb, _⟩ := R'.sl i _ ho
      refine ⟨b, g, ?_⟩
      have : (if i = i then some a else F.L i) = some b := hb
      rw [if_pos rfl] at this
      exact (Option.some.inj this).symm) (R'.unlock h0 hL hl hm).2)
  | .err x ρ', w => fun c od σ' G' H' R' hx => w c od σ' G' H' (R'.unlock h0 hL hl hm).1 hx
  | .stuck, w => w
end
end DL
set_option Elab.async false
set_option linter.all false
set_option maxRecDepth 100000
set_option maxHeartbeats 2000000
namespace DL
open PySem PySem.Spec PyProof.Rows L2 DD
@[simp] def wipeN (ρ : En) : List Nat → En
  | [] => ρ
  | v :: vs => (wipeN ρ vs).set v .none
section
variable {K : Fg} {E Et Ea : XK} {F : Fm} {G G' G1 H H' : Hp} {σ σ' : L2.St} {ρ ρ' : En}
theorem wipeN_length (ρ : En) : ∀ vs : List Nat, (wipeN ρ vs).length = ρ.length
  | [] => rfl
  | v :: vs => by unfold wipeN; rw [List.length_set, wipeN_length ρ vs]
theorem wipe_get {i : Nat} : ∀ {vs : List Nat}, i ∉ vs → (wipe σ vs)[i]? = σ[i]?
  | [], _ => rfl
  | v :: vs, h => by
    unfold wipe
    rw [List.getElem?_set_ne (fun e => h (by rw [e]; exact List.mem_cons_self ..))]
    exact wipe_get fun z => h (List.mem_cons_of_mem _ z)
theorem wipeN_get {i : Nat} : ∀ {vs : List Nat}, i ∉ vs → (wipeN ρ vs)[i]? = ρ[i]?
  | [], _ => rfl
  | v :: vs, h => by
    unfold wipeN
    rw [List.getElem?_set_ne (fun e => h (by rw [e]; exact List.mem_cons_self ..))]
    exact wipeN_get fun z => h (List.mem_cons_of_mem _ z)
def Wiped (ρ : En) (vs : List Nat) : Prop := ∀ v ∈ vs, ∀ s, ρ[v]? = some s → s = .none
theorem wiped_N : ∀ {vs : List Nat}, Wiped (wipeN ρ vs) vs
  | [] => fun v h => by cases h
  | w :: vs => fun v h s e => by
    unfold wipeN at e
    rcases getset e with ⟨_, e2, _⟩ | ⟨ne, e⟩
    · exact e2.symm
    · rcases List.mem_cons.mp h with rfl | h
      · exact absurd rfl ne
      · exact wiped_N v h s e
theorem wipe_wipe {vs : List Nat} : wipe (wipe σ vs) vs = wipe σ vs := by
  apply List.ext_getElem?
  intro i
  by_cases h : i ∈ vs
  · have z : ∀ (τ : L2.St) (ws : List Nat), i ∈ ws → (wipe τ ws)[i]? = if i < τ.length then some none else none := by
      intro τ ws
      induction ws with
      | nil => intro h; cases h
      | cons w ws ih =>
        intro h
        unfold wipe
        by_cases q : w = i
        · subst q
          by_cases hl : w < τ.length
          · rw [List.getElem?_set_self (by rw [wipe_length]; exact hl), if_pos hl]
          · rw [List.getElem?_eq_none (by rw [List.length_set, wipe_length]; omega), if_neg hl]
        · rw [List.getElem?_set_ne q]
          refine ih ?_
          rcases List.mem_cons.mp h with rfl | h
          · exact absurd rfl q
          · exact h
    rw [z _ _ h, z _ _ h, wipe_length]
  · rw [wipe_get h]
/-- slots that nobody asks of may hold anything -/
theorem Rl.any {vs : List Nat} (R : Rl K F G H σ ρ) (hw : Wiped ρ vs) (e : wipe σ' vs = wipe σ vs) : Rl K F G H σ' ρ := by
  have hl : σ'.length = σ.length := by
    have := congrArg List.length e
    rwa [wipe_length, wipe_length] at this
  have eq : ∀ i, i ∉ vs → σ'[i]? = σ[i]? := fun i h => by
    rw [← wipe_get (σ := σ') h, ← wipe_get (σ := σ) h, e]
  have own : ∀ (i : Nat) (o : O), ρ[i]? = some (.own o) → i ∉ vs := fun i o h z => by
    have := hw i z _ h
    cases this
  refine ⟨R.gh, R.g0, R.gn, R.hk, R.hm, R.hl, fun i s hs => ?_, fun i j o o' a h1 h2 h3 h4 => R.di i j o o' a h1 h2 (by rw [← eq i (own i o h1)]; exact h3) (by rw [← eq j (own j o' h2)]; exact h4), R.mi, R.tb⟩
  obtain ⟨x, h1, h2⟩ := R.sl i s hs
  by_cases h : i ∈ vs
  · have := hw i h s hs
    subst this
    have hi : i < σ'.length := by rw [hl]; exact (List.getElem?_eq_some_iff.mp h1).1
    exact ⟨_, List.getElem?_eq_getElem hi, trivial⟩
  · exact ⟨x, by rw [eq i h]; exact h1, h2⟩
theorem Rl.wipeN {vs : List Nat} (R : Rl K F G H σ ρ) (hf : vs.all (freeAt ρ) = true) : Rl K F G H σ (wipeN ρ vs) := by
  have free : ∀ v ∈ vs, freeAt ρ v = true := List.all_eq_true.mp hf
  refine ⟨R.gh, R.g0, R.gn, R.hk, fun j a h => ?_, fun j a h => ?_, fun i s hs => ?_, fun i j o o' a h1 h2 h3 h4 => ?_, R.mi, R.tb⟩
  · obtain ⟨h1, h2, o, h3⟩ := R.hm j a h
    refine ⟨h1, h2, o, ?_⟩
    rw [wipeN_get fun z => ?_]
    · exact h3
    · have := free j z
      unfold freeAt at this
      rw [h3] at this
      cases this
  · obtain ⟨o, h3⟩ := R.hl j a h
    refine ⟨o, ?_⟩
    rw [wipeN_get fun z => ?_]
    · exact h3
    · have := free j z
      unfold freeAt at this
      rw [h3] at this
      cases this
  · by_cases h : i ∈ vs
    · have := wiped_N i h s hs
      subst this
      have hi : i < ρ.length := by rw [← wipeN_length ρ vs]; exact (List.getElem?_eq_some_iff.mp hs).1
      exact ⟨_, List.getElem?_eq_getElem (R.lt hi), trivial⟩
    · rw [wipeN_get h] at hs
      exact R.sl i s hs
  · have n1 : i ∉ vs := fun z => by cases wiped_N i z _ h1
    have n2 : j ∉ vs := fun z => by cases wiped_N j z _ h2
    rw [wipeN_get n1] at h1
    rw [wipeN_get n2] at h2
    exact R.di i j o o' a h1 h2 h3 h4
def lcL (vs : List Nat) (U : Tg) (T : En → Res Bool) (A : En → Res X) : List D → En → List D → Res (List D)
  | [], ρ, acc => .ok acc ρ
  | d :: ds, ρ, acc => match U d ρ with
    | none => .stuck
    | some ρ1 => match T ρ1 with
      | .ok true ρ2 => match A ρ2 with
        | .ok x ρ3 => match toVal ρ3 x with
          | some (e, ρ4) => if acc.length < sizeLine ∧ vs.all (freeAt ρ4) = true then lcL vs U T A ds (wipeN ρ4 vs) (acc ++ [e]) else .stuck
          | none => .stuck
        | _ => .stuck
      | .ok false ρ2 => if vs.all (freeAt ρ2) = true then lcL vs U T A ds (wipeN ρ2 vs) acc else .stuck
      | _ => .stuck
theorem lc_core_D {vs : List Nat} {U : Tg} {T : En → Res Bool} {A : En → Res X} {g : TG} {tt : TT} {te : TE} {J : It} {ds es : List DL.D} {P : Hp → Prop} {a : Addr} {ρe : En} {Nf : Hp → Prop}
    (hg : LTg K vs g U) (ht : LT K Et tt T) (ha : LE K Ea te A) (h0 : F.H0 a = none) (hg0 : F.G0 a = none) (hl : ∀ i, F.L i ≠ some a) (hm : ∀ i, F.M i ≠ some a)
    (hI : Its K P G1 J ds) (hP : ∀ G' H' acc ρ', Rl K (F.hold a (.lst acc)) G' H' σ ρ' → Same G1 G' → P H')
    (fin : ∀ G H acc, Rl K (F.hold a (.lst acc)) G H σ ρe → Same G1 G → RepA K G acc es → Nf H)
    {G H : Hp} {ρ : En} {acc : List V} {accd : List DL.D} (R : Rl K (F.hold a (.lst acc)) G H σ ρ) (sG : Same G1 G) (hw : Wiped ρ vs) (hr : RepA K G acc accd) (w : lcL vs U T A ds ρ accd = .ok es ρe) :
    ∃ W : Nat → Nat → Hp → Prop, (∃ m, W 0 m H) ∧ ∀ i m H, W i m H → (J.stop i H ∧ Nf H) ∨ (J.go i H ∧ ∃ Nx : Hp → Prop, (∀ H', Nx H' → ∃ m', m' < m ∧ W (i + 1) m' H') ∧ ∀ x H', J.yld i H x H' → g x (wipe σ vs) H' fun σ2 H2 => wipe σ2 vs = wipe σ vs ∧ tt σ2 H2 fun b H3 =>
      if b = true then te σ2 H3 fun y H4 => ∃ acc, H4 a = some (.lst acc) ∧ acc.length < sizeLine ∧ Nx (upd H4 a (.lst (acc ++ [y]))) else Nx H3) := by
  refine ⟨fun i m H' => ∃ G' ρ' acc' accd', Rl K (F.hold a (.lst acc')) G' H' σ ρ' ∧ Same G1 G' ∧ Wiped ρ' vs ∧ RepA K G' acc' accd' ∧ i + m = ds.length ∧ lcL vs U T A (ds.drop i) ρ' accd' = .ok es ρe, ⟨ds.length, G, ρ, acc, accd, R, sG, hw, hr, by omega, w⟩, ?_⟩
  rintro i m H' ⟨G', ρ', acc', accd', R', s', hw', hr', hmm, w'⟩
  cases m with
  | zero =>
    rw [List.drop_eq_nil_of_le (by omega)] at w'
    cases w'
    exact .inl ⟨hI.stop G' H' s' R'.gh (hP _ _ _ _ R' s') i (by omega), fin G' H' acc' R' s' hr'⟩
  | succ m =>
    have hi : i < ds.length := by omega
    rw [List.drop_eq_getElem_cons hi] at w'
    refine .inr ⟨hI.go G' H' s' R'.gh (hP _ _ _ _ R' s') i hi, fun H2 => ∃ G2 ρ2 acc2 accd2, Rl K (F.hold a (.lst acc2)) G2 H2 σ ρ2 ∧ Same G1 G2 ∧ Wiped ρ2 vs ∧ RepA K G2 acc2 accd2 ∧ lcL vs U T A (ds.drop (i + 1)) ρ2 accd2 = .ok es ρe,
      fun H2 ⟨G2, ρ2, acc2, accd2, R2, s2, q1, q2, q3⟩ => ⟨m, by omega, G2, ρ2, acc2, accd2, R2, s2, q1, q2, by omega, q3⟩, fun x H3 hy => ?_⟩
    have Rw : Rl K (F.hold a (.lst acc')) G' H' (wipe σ vs) ρ' := R'.any hw' wipe_wipe
    obtain ⟨G3, R3, s3, _, k3, d, hd, hrd⟩ := hI.yld _ _ _ _ _ Rw s' (hP _ _ _ _ R' s') i x H3 hi hy
    rw [List.getElem?_eq_getElem hi] at hd
    cases hd
    unfold lcL at w'
    cases e : U ds[i] ρ' with
    | none => rw [e] at w'; cases w'
    | some ρ1 =>
      rw [e] at w'
      dsimp only at w'
      refine hg _ _ _ _ _ ρ1 x _ _ R3 hrd e fun σ4 R4 w4 => ⟨w4.trans wipe_wipe, ?_⟩
      have w4' : wipe σ vs = wipe σ4 vs := (w4.trans wipe_wipe).symm
      refine ht _ G3 H3 σ4 ρ1 _ R4 ?_
      cases e2 : T ρ1 with
      | stuck => rw [e2] at w'; cases w'
      | err y ρ2 => rw [e2] at w'; cases w'
      | ok b ρ2 =>
        rw [e2] at w'
        intro b' G5 H5 R5 s5 eb
        subst eb
        cases b' with
        | false =>
          refine iteF ?_
          dsimp only at w'
          split at w'
          · rename_i hf
            exact ⟨G5, _, acc', accd', (R5.wipeN hf).any wiped_N w4', s'.trans (s3.trans s5), wiped_N, hr'.mono (s3.trans s5), w'⟩
          · cases w'
        | true =>
          refine iteT ?_
          dsimp only at w'
          refine ha _ G5 H5 σ4 ρ2 _ R5 ?_
          cases e3 : A ρ2 with
          | stuck => rw [e3] at w'; cases w'
          | err y ρ3 => rw [e3] at w'; cases w'
          | ok z ρ3 =>
            rw [e3] at w'
            intro y G6 H6 R6 s6 hz
            dsimp only at w'
            cases e4 : toVal ρ3 z with
            | none => rw [e4] at w'; cases w'
            | some p =>
              obtain ⟨ed, ρ4⟩ := p
              rw [e4] at w'
              dsimp only at w'
              split at w'
              · rename_i hc
                obtain ⟨G7, R7, s7, r7⟩ := R6.toVal hz e4
                have sAll := s3.trans (s5.trans (s6.trans s7))
                refine ⟨acc', R7.heldH hm, by rw [hr'.len]; exact hc.1, G7, _, acc' ++ [y], accd' ++ [ed], ((R7.wipeN hc.2).any wiped_N w4').rehold h0 hg0 hl hm, s'.trans sAll, wiped_N, (hr'.mono sAll).app (.one r7), w'⟩
              · cases w'
def lcAll (vs : List Nat) (U : Tg) (T : En → Res Bool) (A : En → Res X) (ds : List D) (ρ : En) : Res X := if vs.all (freeAt ρ) = true then
    match lcL vs U T A ds (wipeN ρ vs) [] with
    | .ok es ρ2 => .ok (.new (.lst es)) ρ2
    | _ => .stuck
  else .stuck
def dLc (S : En → Res (List D)) (vs : List Nat) (U : Tg) (T : En → Res Bool) (A : En → Res X) : En → Res X := fun ρ => (S ρ).bind fun ds ρ1 => lcAll vs U T A ds ρ1
def tdYes : En → Res Bool := fun ρ => .ok true ρ
theorem L_yes : LT K E tYes tdYes := fun F G H σ ρ Q R w => w true G H R (Same.refl G) rfl
theorem lcAll_run {vs : List Nat} {U : Tg} {T : En → Res Bool} {A : En → Res X} {g : TG} {tt : TT} {te : TE} {J : It} {ds : List DL.D} {P : Hp → Prop} {Q : VK} (hg : LTg K vs g U) (ht : LT K Et tt T) (ha : LE K Ea te A)
    (R : Rl K F G H σ ρ) (hI : Its K P G J ds) (hP : ∀ (F' : Fm) G' H' ρ', Rl K F' G' H' σ ρ' → (∀ b o, F.H0 b = some o → F'.H0 b = some o) → F'.M = F.M → P H') (w : Wants K E (RepX K) F G σ Q (lcAll vs U T A ds ρ)) :
    ∀ a, H a = none → ∃ W : Nat → Nat → Hp → Prop, (∃ m, W 0 m (upd H a (.lst []))) ∧ ∀ i m H, W i m H → (J.stop i H ∧ Q (.ref a) H) ∨ (J.go i H ∧ ∃ Nx : Hp → Prop, (∀ H', Nx H' → ∃ m', m' < m ∧ W (i + 1) m' H') ∧ ∀ x H', J.yld i H x H' → g x (wipe σ vs) H' fun σ2 H2 => wipe σ2 vs = wipe σ vs ∧ tt σ2 H2 fun b H3 =>
      if b = true then te σ2 H3 fun y H4 => ∃ acc, H4 a = some (.lst acc) ∧ acc.length < sizeLine ∧ Nx (upd H4 a (.lst (acc ++ [y]))) else Nx H3) := by
  intro a na
  unfold lcAll at w
  split at w
  · rename_i hf
    have h0 := R.fresh na
    have hgG := R.freshG na
    have hg0 : F.G0 a = none := none_of R.g0 hgG
    have hl := R.noL h0
    have hm := R.noM h0
    have n : ∀ (j : Nat) (u : O), (DL.wipeN ρ vs)[j]? = some (.own u) → σ[j]? ≠ some (some (.ref a)) := fun j u hj z => by
      obtain ⟨b, h1, _, _, h4⟩ := (R.wipeN hf).own hj
      rw [h1] at z
      cases z
      obtain ⟨u, e⟩ := h4.ex
      rw [na] at e
      cases e
    have R1 : Rl K (F.hold a (.lst [])) G (upd H a (.lst [])) σ (DL.wipeN ρ vs) := ((R.wipeN hf).laid na).hold upd_same h0 hgG n
    cases e : lcL vs U T A ds (DL.wipeN ρ vs) [] with
    | stuck => rw [e] at w; exact w.elim
    | err x ρ2 => rw [e] at w; exact w.elim
    | ok es ρe =>
      rw [e] at w
      refine lc_core_D hg ht ha h0 hg0 hl hm hI (fun G' H' acc ρ' R' _ => hP _ G' H' ρ' R' (fun b o hb => ?_) rfl) (fun G' H' acc R' s' r' => ?_) R1 (Same.refl G) wiped_N .nil e
      · show upd F.H0 a _ b = some o
        rw [upd_ne (ne_of_none hb h0)]
        exact hb
      · exact w _ G' H' (R'.unhold h0 hl hm) s' ⟨a, rfl, h0, R'.heldG hg0, ⟨acc, R'.heldH hm, r'⟩, R'.heldN⟩
  · exact w.elim
theorem L_lc {wi : TI} {S : En → Res (List D)} {vs : List Nat} {U : Tg} {T : En → Res Bool} {A : En → Res X} {g : TG} {tt : TT} {te : TE} (hi : LI K E wi S) (hg : LTg K vs g U) (ht : LT K Et tt T) (ha : LE K Ea te A) : LE K E (tLc wi g tt te vs) (dLc S vs U T A) := by
  intro F G H σ ρ Q R w
  exact hi F G H σ ρ _ R (Wants.bind w fun J ds G1 H1 ρ1 R1 s1 hI w1 => lcAll_run hg ht ha R1 hI (fun _ _ _ _ _ _ _ => trivial) w1)
@[simp] def Res.unlock {α : Type} (i : Nat) : Res α → Res α
  | .ok a ρ => .ok a (unlockE ρ i)
  | .err x ρ => .err x (unlockE ρ i)
  | .stuck => .stuck
def dLcS (A0 : En → Res X) (vs : List Nat) (U : Tg) (T : En → Res Bool) (A : En → Res X) : En → Res X := fun ρ => (seqOf A0 ρ).bind fun p ρ1 => match p.1 with
  | none => lcAll vs U T A p.2 ρ1
  | some i => (lcAll vs U T A p.2 ρ1).unlock i
theorem Wants.unlock {i : Nat} {u : HO} {a : Addr} {Q : VK} (h0 : F.H0 a = none) (hL : F.L i = none) (hl : ∀ j, F.L j ≠ some a) (hm : ∀ j, F.M j ≠ some a) : ∀ {r : Res X}, Wants K E (RepX K) F G σ Q (r.unlock i) → Wants K E (RepX K) (F.lock i a u) G σ Q r
  | .ok x ρ', w => fun v G' H' R' s' hx => w v G' H' (R'.unlock h0 hL hl hm).1 s' (hx.unlock h0 (fun o ho => by
      obtain ⟨x, g, b, u', rfl, hb, _⟩ := R'.sl i _ ho
      refine ⟨b, g, ?_⟩
      have : (if i = i then some a else F.L i) = some b := hb
      rw [if_pos rfl] at this
      exact (Option.some.inj this).symm) (R'.unlock h0 hL hl hm).2)
  | .err x ρ', w => fun c od G' H' R' s' hx => w c od G' H' (R'.unlock h0 hL hl hm).1 s' hx
  | .stuck, w => w
end
end DL
set_option Elab.async false
set_option linter.all false
set_option maxRecDepth 100000
set_option maxHeartbeats 2000000
namespace DL
open PySem PySem.Spec PyProof.Rows L2 DD
/-- what a body hands back -/
inductive Rt where
  | ok (x : X) (ρ : En) | err (x : Xc) (ρ : En) | stuck
def fin : SR → Rt
  | .nx ρ => .ok (.val .non) ρ
  | .rt (.val d) ρ => .ok (.val d) ρ
  | .rt (.new o) ρ => .ok (.new o) ρ
  | .rt (.own i) ρ => match ρ[i]? with
    | some (.val d) => .ok (.val d) ρ
    | some (.own o) => .ok (.new o) ρ
    | _ => .stuck
  | .err x ρ => .err x ρ
  | _ => .stuck
@[simp] def env0 (m : Nat) (ss : List Slot) : En := ss ++ List.replicate (m - ss.length) .none
/-- behind a def: ob is where what it borrowed stands -/
structure Post (K : Fg) (G H : Hp) (ob : Option Addr) (ρ' : En) (G' H' : Hp) : Prop where
  s : Same G G'
  k : Same G' H'
  g : ∀ a o, G' a = some o → G a = none → H a = none
  t : ∀ a o, G' a = some o → G a = none → ∀ ps, o ≠ .tbl ps
  h : ∀ a o, H a = some o → ob ≠ some a → H' a = some o
  b : ∀ a, ob = some a → ∃ o, ρ'[0]? = some (.bor o) ∧ G' a = none ∧ ObjO K G' H' a o
def RetX (K : Fg) (H G' H' : Hp) (v : V) : X → Prop
  | .val d => Rep K G' v d
  | .new o => ∃ a, v = .ref a ∧ H a = none ∧ G' a = none ∧ ObjO K G' H' a o
  | .own _ => False
def Out (K : Fg) (E : XK) (G H : Hp) (ob : Option Addr) (Q : VK) : Rt → Prop
  | .ok x ρ' => ∀ v G' H', Post K G H ob ρ' G' H' → RetX K H G' H' v x → Q v H'
  | .err x ρ' => ∀ c od G' H', Post K G H ob ρ' G' H' → XRep K G' H' c od x → E c od H'
  | .stuck => False
def spD (K : Fg) (n m : Nat) (T : En → SR) : Sp := fun vs H Q E => ∃ G, Same G H ∧
  ((∃ ds, RepA K G vs ds ∧ vs.length = n ∧ Out K E G H none Q (fin (T (env0 m (ds.map .val))))) ∨
   ∃ a o ws ds, vs = .ref a :: ws ∧ RepA K G ws ds ∧ ws.length + 1 = n ∧ G a = none ∧ ObjO K G H a o ∧ Out K E G H (some a) Q (fin (T (env0 m (.bor o :: ds.map .val)))))
section
variable {P : Program} {w : World} {K : Fg} {mg : Str → Option Value} {base : Heap} {E : XK} {G G' H H' : Hp}
theorem start_get {N : List Str} {vs : List V} {i : Nat} (h : i < N.length) (hn : vs.length ≤ N.length) : ∃ x, (start N vs)[i]? = some x ∧ ∀ v, vs[i]? = some v → x = some v := by
  unfold L2.start
  by_cases hi : i < vs.length
  · refine ⟨some vs[i], ?_, fun v e => ?_⟩
    · rw [List.getElem?_append_left (by simpa using hi), List.getElem?_map, List.getElem?_eq_getElem hi]
      rfl
    · rw [List.getElem?_eq_getElem hi] at e
      cases e
      rfl
  · refine ⟨none, ?_, fun v e => ?_⟩
    · rw [List.getElem?_append_right (by simpa using hi), List.getElem?_replicate, List.length_map, if_pos (by omega)]
    · rw [List.getElem?_eq_none (by omega)] at e
      cases e
theorem env0_get {m i : Nat} {ss : List Slot} {s : Slot} (h : (env0 m ss)[i]? = some s) : ss[i]? = some s ∨ (s = .none ∧ ss.length ≤ i ∧ i < ss.length + (m - ss.length)) := by
  unfold env0 at h
  by_cases hi : i < ss.length
  · rw [List.getElem?_append_left hi] at h
    exact .inl h
  · rw [List.getElem?_append_right (by omega), List.getElem?_replicate] at h
    split at h
    · cases h
      exact .inr ⟨rfl, by omega, by omega⟩
    · cases h
theorem map_val_get {ds : List D} {i : Nat} {s : Slot} (h : (ds.map Slot.val)[i]? = some s) : ∃ d, ds[i]? = some d ∧ s = .val d := by
  rw [List.getElem?_map, Option.map_eq_some_iff] at h
  obtain ⟨d, h1, h2⟩ := h
  exact ⟨d, h1, h2.symm⟩
/-- at the entry, nothing borrowed -/
theorem ent0 {N : List Str} {vs : List V} {ds : List D} (s : Same G H) (r : RepA K G vs ds) (hn : vs.length ≤ N.length) : Rl K ⟨H, G, fun _ => none, fun _ => none, []⟩ G H (start N vs) (env0 N.length (ds.map .val)) := by
  have hl := r.len
  refine ⟨s, Same.refl G, fun a o h h' => (by rw [show G a = none from h'] at h; cases h), fun a o h _ => h, fun i a h => (nomatch h), fun i a h => (nomatch h), fun i t h => ?_, fun i j o o' a h => ?_, fun i j a h => (nomatch h), TabR.nil⟩
  · rcases env0_get h with h | ⟨rfl, h1, h2⟩
    · obtain ⟨d, h1, rfl⟩ := map_val_get h
      obtain ⟨v, h2, h3⟩ := r.get h1
      have hi : i < vs.length := (List.getElem?_eq_some_iff.mp h2).1
      obtain ⟨x, e1, e2⟩ := start_get (N := N) (vs := vs) (i := i) (by omega) hn
      exact ⟨x, e1, v, e2 v h2, h3⟩
    · rw [List.length_map] at h1 h2
      obtain ⟨x, e1, e2⟩ := start_get (N := N) (vs := vs) (i := i) (by omega) hn
      exact ⟨x, e1, trivial⟩
  · rcases env0_get h with h | ⟨e, _⟩
    · obtain ⟨d, _, e⟩ := map_val_get h
      cases e
    · cases e
theorem ent1 {N : List Str} {a : Addr} {o : O} {vs : List V} {ds : List D} (s : Same G H) (r : RepA K G vs ds) (hn : vs.length + 1 ≤ N.length) (hg : G a = none) (ho : ObjO K G H a o) :
    Rl K ⟨H, G, fun i => if i = 0 then some a else none, fun _ => none, []⟩ G H (start N (.ref a :: vs)) (env0 N.length (.bor o :: ds.map .val)) := by
  have hl := r.len
  have M0 : ∀ i b, (if i = 0 then some a else none) = some b → i = 0 ∧ b = a := fun i b h => by
    split at h
    · rename_i e
      exact ⟨e, (Option.some.inj h).symm⟩
    · cases h
  refine ⟨s, Same.refl G, fun a o h h' => (by rw [show G a = none from h'] at h; cases h), fun a o h _ => h, fun i b h => ?_, fun i a h => (nomatch h), fun i t h => ?_, fun i j u u' b h => ?_, fun i j b h h' => (M0 i b h).1.trans (M0 j b h').1.symm, TabR.nil⟩
  · obtain ⟨rfl, rfl⟩ := M0 i b h
    obtain ⟨u, e⟩ := ho.ex
    have hn : H b ≠ none := by rw [e]; exact fun z => (nomatch z)
    exact ⟨hn, hn, o, rfl⟩
  · rcases env0_get h with h | ⟨rfl, h1, h2⟩
    · cases i with
      | zero =>
        simp at h
        subst h
        obtain ⟨x, e1, e2⟩ := start_get (N := N) (vs := .ref a :: vs) (i := 0) (by omega) (by simpa using hn)
        exact ⟨x, e1, a, e2 _ rfl, rfl, hg, ho⟩
      | succ i =>
        obtain ⟨d, h1, rfl⟩ := map_val_get (i := i) (by simpa using h)
        obtain ⟨v, h2, h3⟩ := r.get h1
        have hi : i < vs.length := (List.getElem?_eq_some_iff.mp h2).1
        obtain ⟨x, e1, e2⟩ := start_get (N := N) (vs := .ref a :: vs) (i := i + 1) (by omega) (by simpa using hn)
        exact ⟨x, e1, v, e2 v (by simpa using h2), h3⟩
    · rw [List.length_cons, List.length_map] at h1 h2
      obtain ⟨x, e1, e2⟩ := start_get (N := N) (vs := .ref a :: vs) (i := i) (by omega) (by simpa using hn)
      exact ⟨x, e1, trivial⟩
  · rcases env0_get h with h | ⟨e, _⟩
    · cases i with
      | zero => simp at h
      | succ i =>
        have h' : (ds.map Slot.val)[i]? = some (.own u) := h
        obtain ⟨d, _, e⟩ := map_val_get h'
        cases e
    · cases e
theorem post0 {σ : L2.St} {ρ' : En} (R : Rl K ⟨H, G, fun _ => none, fun _ => none, []⟩ G' H' σ ρ') : Post K G H none ρ' G' H' :=
  ⟨R.g0, R.gh, R.gn, R.tb.2.2, fun a o h _ => R.hk a o h (fun _ z => (nomatch z)), fun a h => (nomatch h)⟩
theorem post1 {a : Addr} {σ : L2.St} {ρ' : En} (R : Rl K ⟨H, G, fun i => if i = 0 then some a else none, fun _ => none, []⟩ G' H' σ ρ') : Post K G H (some a) ρ' G' H' := by
  refine ⟨R.g0, R.gh, R.gn, R.tb.2.2, fun b o h n => R.hk b o h fun i z => n ?_, fun b h => ?_⟩
  · have z' : (if i = 0 then some a else none) = some b := z
    split at z'
    · exact z'
    · cases z'
  · cases h
    obtain ⟨_, _, o, ho⟩ := R.hm 0 a rfl
    obtain ⟨c, h1, h2, h3, h4⟩ := R.bor ho
    have : c = a := (Option.some.inj (show some a = some c from h2)).symm
    subst this
    exact ⟨o, ho, h3, h4⟩
theorem out_ws {F : Fm} {ob : Option Addr} {Q : VK} {D : Ends} (hF : F.H0 = H) (hp : ∀ {σ : L2.St} {ρ' : En} {G' H' : Hp}, Rl K F G' H' σ ρ' → Post K G H ob ρ' G' H') (hD : ∀ σ H', Q .non H' → D.nx σ H') (hr : ∀ v H', Q v H' → D.rt v H') : ∀ {r : SR}, Out K E G H ob Q (fin r) → WS K E F D r
  | .nx ρ', o => fun σ G' H' R => hD _ _ (o .non G' H' (hp R) .non)
  | .rt (.val d) ρ', o => fun v σ G' H' R hx => hr _ _ (o v G' H' (hp R) hx)
  | .rt (.new u) ρ', o => fun v σ G' H' R hx => hr _ _ (o v G' H' (hp R) (by
      obtain ⟨a, e, h0, hg, ho, _⟩ := hx
      rw [hF] at h0
      exact ⟨a, e, h0, hg, ho⟩))
  | .rt (.own i) ρ', o => fun v σ G' H' R hx => by
    simp only [fin] at o
    split at o
    · rename_i d e
      obtain ⟨v', h1, h2⟩ := R.val e
      rw [show σ[i]? = some (some v) from hx] at h1
      cases h1
      exact hr _ _ (o v G' H' (hp R) h2)
    · rename_i u e
      obtain ⟨a, h1, h0, hg, ho⟩ := R.own e
      rw [show σ[i]? = some (some v) from hx] at h1
      cases h1
      rw [hF] at h0
      exact hr _ _ (o _ G' H' (hp R) ⟨a, rfl, h0, hg, ho⟩)
    · exact o.elim
  | .err x ρ', o => fun c od σ G' H' R hx => o c od G' H' (hp R) hx
  | .bk ρ', o => o.elim
  | .ct ρ', o => o.elim
  | .stuck, o => o.elim
theorem spD_run {n : Nat} {N : List Str} {T : En → SR} {t : TS} {vs : List V} {Q : VK} (hN : n ≤ N.length) (h : LS K E t T) (hs : spD K n N.length T vs H Q E) : t { nx := fun _ H' => Q .non H', rt := Q } (start N vs) H := by
  obtain ⟨G, s, hs⟩ := hs
  rcases hs with ⟨ds, r, hn, o⟩ | ⟨a, u, ws, ds, rfl, r, hn, hg, ho, o⟩
  · exact h _ G H _ _ _ (ent0 s r (by omega)) (out_ws rfl post0 (fun _ _ q => q) (fun _ _ q => q) o)
  · exact h _ G H _ _ _ (ent1 s r (by omega) hg ho) (out_ws rfl post1 (fun _ _ q => q) (fun _ _ q => q) o)
theorem spD_len {n m : Nat} {T : En → SR} {vs : List V} {Q : VK} (hs : spD K n m T vs H Q E) : vs.length = n := by
  obtain ⟨G, s, hs⟩ := hs
  rcases hs with ⟨ds, r, hn, o⟩ | ⟨a, u, ws, ds, rfl, r, hn, hg, ho, o⟩
  · exact hn
  · rw [List.length_cons]; exact hn
end
section
variable {K : Fg} {E : XK} {F : Fm} {G G' H H' : Hp} {σ : L2.St} {ρ ρ' : En}
theorem Rl.after {ch : Addr → Prop} (R : Rl K F G H σ ρ) (s : Same G G') (k : Same G' H') (g : ∀ b o, G' b = some o → G b = none → H b = none) (hk : ∀ b o, H b = some o → ¬ ch b → H' b = some o)
    (far : ∀ b, ch b → F.H0 b = none ∧ ∀ (j : Nat) (u : O), ρ[j]? = some (.own u) → σ[j]? ≠ some (some (.ref b))) (nu : ∀ b u, ch b → H b = some u → Usual b u) (gt : ∀ b o, G' b = some o → G b = none → ∀ ps, o ≠ .tbl ps) : Rl K F G' H' σ ρ where
  gh := k
  g0 := R.g0.trans s
  gn := fun b o hb hb' => by
    cases e : G b with
    | some u => exact R.gn b u e hb'
    | none => exact R.fresh (g b o hb e)
  hk := fun b o hb n => hk b o (R.hk b o hb n) fun c => by rw [(far b c).1] at hb; cases hb
  hm := fun i b hb => by
    obtain ⟨h1, h2, h3⟩ := R.hm i b hb
    refine ⟨fun z => ?_, h2, h3⟩
    cases e : H b with
    | none => exact h1 e
    | some u =>
      rw [hk b u e fun c => h2 (far b c).1] at z
      cases z
  hl := R.hl
  sl := fun i t hs => by
    obtain ⟨x, h1, h2⟩ := R.sl i t hs
    refine ⟨x, h1, ?_⟩
    have gone : ∀ b, G b = none → (∃ u, H b = some u) → G' b = none := fun b hb hu => by
      cases e : G' b with
      | none => rfl
      | some o =>
        obtain ⟨u, hu⟩ := hu
        rw [g b o e hb] at hu
        cases hu
    cases t with
    | none => trivial
    | val d =>
      obtain ⟨v, e1, e2⟩ := h2
      exact ⟨v, e1, e2.mono s⟩
    | own u =>
      obtain ⟨b, rfl, e2, e3, e4⟩ := h2
      exact ⟨b, rfl, e2, gone b e3 e4.ex, e4.mono s fun y hy => hk b y hy fun c => (far b c).2 i u hs h1⟩
    | bor u =>
      obtain ⟨b, rfl, e2, e3, e4⟩ := h2
      exact ⟨b, rfl, e2, gone b e3 e4.ex, e4.mono s fun y hy => hk b y hy fun c => (R.hm i b e2).2.1 (far b c).1⟩
    | lck u =>
      obtain ⟨b, y, rfl, e2, e3, e5, e6, e4⟩ := h2
      exact ⟨b, y, rfl, e2, gone b e3 e4.ex, e5, e6, e4.mono s fun z hz => hk b z hz fun c => by rw [(far b c).1] at e5; cases e5⟩
  di := R.di
  mi := R.mi
  tb := R.tb.after s gt g hk nu
/-- what slot i holds was lent and has come back -/
theorem Rl.lent {i : Nat} {t t' : Slot} {o : O} {a : Addr} (R : Rl K F G H σ ρ) (h : ρ[i]? = some t) (ht : t.re o = some t') (ha : σ[i]? = some (some (.ref a))) (s : Same G G') (k : Same G' H') (g : ∀ b u, G' b = some u → G b = none → H b = none) (hk : ∀ b u, H b = some u → b ≠ a → H' b = some u)
    (hg : G' a = none) (ho : ObjO K G' H' a o) (gt : ∀ b o, G' b = some o → G b = none → ∀ ps, o ≠ .tbl ps) : Rl K F G' H' σ (ρ.set i t') := by
  have hil : i < ρ.length := (List.getElem?_eq_some_iff.mp h).1
  have ha' : H' a ≠ none := by obtain ⟨u, e⟩ := ho.ex; rw [e]; exact fun z => nomatch z
  have hc : ∀ x, F.H0 a = some x → ∃ j, F.M j = some a := fun x e => by
    rcases re_cases ht with ⟨u0, rfl, rfl⟩ | ⟨u0, rfl, rfl⟩
    · obtain ⟨b, h1, h2, _⟩ := R.own h
      rw [ha] at h1; cases h1; rw [h2] at e; cases e
    · obtain ⟨b, h1, h2, _⟩ := R.bor h
      rw [ha] at h1; cases h1; exact ⟨i, h2⟩
  have gone : ∀ b, G b = none → (∃ u, H b = some u) → G' b = none := fun b hb hu => by
    cases e : G' b with
    | none => rfl
    | some o =>
      obtain ⟨u, hu⟩ := hu
      rw [g b o e hb] at hu
      cases hu
  have exo : ∃ w, ObjO K G H a w := by
    rcases re_cases ht with ⟨u0, rfl, rfl⟩ | ⟨u0, rfl, rfl⟩
    · obtain ⟨b, h1, _, _, h2⟩ := R.own h
      rw [ha] at h1; cases h1; exact ⟨_, h2⟩
    · obtain ⟨b, h1, _, _, h2⟩ := R.bor h
      rw [ha] at h1; cases h1; exact ⟨_, h2⟩
  obtain ⟨wo, exo⟩ := exo
  refine ⟨k, R.g0.trans s, fun b x hb hb' => ?_, fun b x e n => ?_, fun j b e => ?_, fun j b e => ?_, fun j y e => ?_, fun j l w w' b h1 h2 h3 h4 => ?_, R.mi, R.tb.after (ch := fun b => b = a) s gt g (fun b u h n => hk b u h n) (fun b u e h => by subst e; exact exo.usual h)⟩
  · cases e : G b with
    | some u => exact R.gn b u e hb'
    | none => exact R.fresh (g b x hb e)
  · by_cases q : b = a
    · subst q
      obtain ⟨j, z⟩ := hc x e
      exact absurd z (n j)
    · exact hk b x (R.hk b x e n) q
  · obtain ⟨h1, h2, w, h3⟩ := R.hm j b e
    refine ⟨fun z => ?_, h2, ?_⟩
    · by_cases q : b = a
      · rw [q] at z; exact ha' z
      · cases e2 : H b with
        | none => exact h1 e2
        | some u => rw [hk b u e2 q] at z; cases z
    · by_cases q : i = j
      · subst q
        rw [h] at h3
        rcases re_cases ht with ⟨u0, rfl, rfl⟩ | ⟨u0, rfl, rfl⟩
        · cases h3
        · exact ⟨o, List.getElem?_set_self hil⟩
      · rw [List.getElem?_set_ne q]
        exact ⟨w, h3⟩
  · obtain ⟨w, h3⟩ := R.hl j b e
    by_cases q : i = j
    · subst q
      rw [h] at h3
      rcases re_cases ht with ⟨u0, rfl, rfl⟩ | ⟨u0, rfl, rfl⟩ <;> cases h3
    · rw [List.getElem?_set_ne q]
      exact ⟨w, h3⟩
  · rcases getset e with ⟨rfl, rfl, _⟩ | ⟨ne, e'⟩
    · refine ⟨_, ha, ?_⟩
      rcases re_cases ht with ⟨u0, rfl, rfl⟩ | ⟨u0, rfl, rfl⟩
      · obtain ⟨b, h1, h2, h3, _⟩ := R.own h
        rw [ha] at h1; cases h1
        exact ⟨_, rfl, h2, hg, ho⟩
      · obtain ⟨b, h1, h2, h3, _⟩ := R.bor h
        rw [ha] at h1; cases h1
        exact ⟨_, rfl, h2, hg, ho⟩
    · obtain ⟨x, h1, h2⟩ := R.sl j y e'
      refine ⟨x, h1, ?_⟩
      cases y with
      | none => trivial
      | val d =>
        obtain ⟨v, e1, e2⟩ := h2
        exact ⟨v, e1, e2.mono s⟩
      | own w =>
        obtain ⟨b, rfl, e2, e3, e4⟩ := h2
        refine ⟨b, rfl, e2, gone b e3 e4.ex, e4.mono s fun y hy => hk b y hy fun q => ?_⟩
        subst q
        rcases re_cases ht with ⟨u0, rfl, rfl⟩ | ⟨u0, rfl, rfl⟩
        · exact ne (R.di i j _ _ b h e' ha h1)
        · obtain ⟨c, g1, g2, _⟩ := R.bor h
          rw [ha] at g1; cases g1
          exact (R.hm i _ g2).2.1 e2
      | bor w =>
        obtain ⟨b, rfl, e2, e3, e4⟩ := h2
        refine ⟨b, rfl, e2, gone b e3 e4.ex, e4.mono s fun y hy => hk b y hy fun q => ?_⟩
        subst q
        rcases re_cases ht with ⟨u0, rfl, rfl⟩ | ⟨u0, rfl, rfl⟩
        · obtain ⟨c, g1, g2, _⟩ := R.own h
          rw [ha] at g1; cases g1
          exact (R.hm j _ e2).2.1 g2
        · obtain ⟨c, g1, g2, _⟩ := R.bor h
          rw [ha] at g1; cases g1
          exact ne (R.mi i j b g2 e2)
      | lck w =>
        obtain ⟨b, y, rfl, e2, e3, e5, e6, e4⟩ := h2
        refine ⟨b, y, rfl, e2, gone b e3 e4.ex, e5, e6, e4.mono s fun z hz => hk b z hz fun q => ?_⟩
        subst q
        obtain ⟨j, z⟩ := hc y e5
        exact e6 j z
  · rcases getset h1 with ⟨rfl, e1, _⟩ | ⟨n1, h1'⟩
    · rcases getset h2 with ⟨rfl, _, _⟩ | ⟨n2, h2'⟩
      · rfl
      · rcases re_cases ht with ⟨u0, rfl, rfl⟩ | ⟨u0, rfl, rfl⟩
        · exact R.di _ _ _ _ b h h2' h3 h4
        · cases e1
    · rcases getset h2 with ⟨rfl, e2, _⟩ | ⟨n2, h2'⟩
      · rcases re_cases ht with ⟨u0, rfl, rfl⟩ | ⟨u0, rfl, rfl⟩
        · exact R.di _ _ _ _ b h1' h h3 h4
        · cases e2
      · exact R.di j l w w' b h1' h2' h3 h4
def callV (r : Rt) (ρ : En) : Res X := match r with
  | .ok x _ => .ok x ρ
  | .err x _ => .err x ρ
  | .stuck => .stuck
theorem retX {v : V} {x : X} (R : Rl K F G H σ ρ) (h : RetX K H G' H' v x) : RepX K F G' H' σ ρ v x := by
  cases x with
  | val d => exact h
  | own i => exact h.elim
  | new o =>
    obtain ⟨a, rfl, h0, hg, ho⟩ := h
    refine ⟨a, rfl, R.fresh h0, hg, ho, fun j u hj z => ?_⟩
    obtain ⟨b, h1, _, _, h4⟩ := R.own hj
    rw [h1] at z
    cases z
    obtain ⟨u, e⟩ := h4.ex
    rw [h0] at e
    cases e
theorem callV_out {Q : VK} {r : Rt} (R : Rl K F G H σ ρ) (w : Wants K E (RepX K) F G σ Q (callV r ρ)) : Out K E G H none Q r := by
  cases r with
  | ok x ρ' =>
    intro v G' H' p hx
    have R' := R.after (ch := fun _ => False) p.s p.k p.g (fun b o h _ => p.h b o h fun z => nomatch z) (fun b z => z.elim) (fun b u z => z.elim) p.t
    exact w v G' H' R' p.s (retX R hx)
  | err x ρ' =>
    intro c od G' H' p hx
    have R' := R.after (ch := fun _ => False) p.s p.k p.g (fun b o h _ => p.h b o h fun z => nomatch z) (fun b z => z.elim) (fun b u z => z.elim) p.t
    exact w c od G' H' R' p.s hx
  | stuck => exact w
/-- f(..): all by value -/
def dCall (n m : Nat) (T : En → SR) (A : En → Res (List X)) : En → Res X := fun ρ => (A ρ).bind fun xs ρ1 => match toVals ρ1 xs with
  | some (ds, ρ2) => if ds.length = n then callV (fin (T (env0 m (ds.map .val)))) ρ2 else .stuck
  | none => .stuck
theorem call_sp {n m : Nat} {T : En → SR} {Q : VK} {vs : List V} {ds : List D} (R : Rl K F G H σ ρ) (r : RepA K G vs ds) (hn : ds.length = n) (w : Wants K E (RepX K) F G σ Q (callV (fin (T (env0 m (ds.map .val)))) ρ)) : spD K n m T vs H Q E :=
  ⟨G, R.gh, .inl ⟨ds, r, by rw [r.len, hn], callV_out R w⟩⟩
theorem L_call {n m : Nat} {T : En → SR} {t : TA} {A : En → Res (List X)} (ha : LA K E t A) : LE K E (tCallR (spD K n m T) E t) (dCall n m T A) := by
  refine LG.bind (k := fun vs σ H (Q : VK) => spD K n m T vs H Q E) ha fun F G H σ ρ vs xs Q R hx w => ?_
  cases e : toVals ρ xs with
  | none => rw [e] at w; exact w.elim
  | some p =>
    obtain ⟨ds, ρ2⟩ := p
    rw [e] at w
    dsimp only at w
    obtain ⟨G1, R1, s1, r1⟩ := R.toVals hx e
    split at w
    · rename_i hn
      exact call_sp R1 r1 hn (w.mono s1)
    · exact w.elim
/-- f(x, ..): x in slot i is lent -/
@[simp] def coAt (ρ : En) (i : Nat) : Option O := ρ[i]?.bind Slot.co
@[simp] def reAt (ρ : En) (i : Nat) (o : O) : En := match ρ[i]? with
  | some (.own _) => ρ.set i (.own o)
  | some (.bor _) => ρ.set i (.bor o)
  | _ => ρ
def callB (r : Rt) (i : Nat) (ρ : En) : Res X := match r with
  | .ok x ρ' => match (ρ'[0]? : Option Slot) with
    | some (.bor o) => .ok x (reAt ρ i o)
    | _ => .stuck
  | .err x ρ' => match (ρ'[0]? : Option Slot) with
    | some (.bor o) => .err x (reAt ρ i o)
    | _ => .stuck
  | .stuck => .stuck
def dCallB (n m : Nat) (T : En → SR) (i : Nat) (A : En → Res (List X)) : En → Res X := fun ρ => (A ρ).bind fun xs ρ1 => match toVals ρ1 xs with
  | some (ds, ρ2) => match coAt ρ2 i with
    | some o => if ds.length + 1 = n then callB (fin (T (env0 m (.bor o :: ds.map .val)))) i ρ2 else .stuck
    | none => .stuck
  | none => .stuck
theorem Rl.co {i : Nat} {o : O} (R : Rl K F G H σ ρ) (h : coAt ρ i = some o) : ∃ s a, ρ[i]? = some s ∧ s.co = some o ∧ σ[i]? = some (some (.ref a)) ∧ G a = none ∧ ObjO K G H a o := by
  unfold coAt at h
  cases e : ρ[i]? with
  | none => rw [e] at h; cases h
  | some s =>
    rw [e] at h
    obtain ⟨a, h1, h2, h3⟩ := R.holder e h
    exact ⟨s, a, rfl, h, h1, h2, h3⟩
theorem Rl.lentAt {i : Nat} {o o' : O} {a : Addr} {ρ'' : En} (R : Rl K F G H σ ρ) (h : coAt ρ i = some o) (ha : σ[i]? = some (some (.ref a))) (p : Post K G H (some a) ρ'' G' H') (ho : ρ''[0]? = some (.bor o')) : Rl K F G' H' σ (reAt ρ i o') := by
  obtain ⟨s, b, h1, h2, h3, h4, h5⟩ := R.co h
  rw [ha] at h3
  cases h3
  obtain ⟨u, e1, e2, e3⟩ := p.b a rfl
  rw [ho] at e1
  cases e1
  rcases co_cases h2 with rfl | rfl
  · have e : reAt ρ i o' = ρ.set i (.own o') := by unfold reAt; rw [h1]
    rw [e]
    exact R.lent h1 rfl ha p.s p.k p.g (fun b u hb n => p.h b u hb fun z => n (Option.some.inj z).symm) e2 e3 p.t
  · have e : reAt ρ i o' = ρ.set i (.bor o') := by unfold reAt; rw [h1]
    rw [e]
    exact R.lent h1 rfl ha p.s p.k p.g (fun b u hb n => p.h b u hb fun z => n (Option.some.inj z).symm) e2 e3 p.t
theorem retX' {v : V} {x : X} {i : Nat} {o o' : O} (R : Rl K F G H σ ρ) (hc : coAt ρ i = some o) (h : RetX K H G' H' v x) : RepX K F G' H' σ (reAt ρ i o') v x := by
  cases x with
  | val d => exact h
  | own i => exact h.elim
  | new u =>
    obtain ⟨a, rfl, h0, hg, ho⟩ := h
    refine ⟨a, rfl, R.fresh h0, hg, ho, fun j w hj z => ?_⟩
    have : ∃ w', ρ[j]? = some (.own w') := by
      obtain ⟨s, b, h1, h2, _⟩ := R.co hc
      unfold reAt at hj
      rw [h1] at hj
      rcases co_cases h2 with rfl | rfl
      · rcases getset hj with ⟨rfl, _, _⟩ | ⟨_, hj⟩
        · exact ⟨_, h1⟩
        · exact ⟨_, hj⟩
      · rcases getset hj with ⟨rfl, e, _⟩ | ⟨_, hj⟩
        · cases e
        · exact ⟨_, hj⟩
    obtain ⟨w', hw⟩ := this
    obtain ⟨b, h1, _, _, h4⟩ := R.own hw
    rw [h1] at z
    cases z
    obtain ⟨u, e⟩ := h4.ex
    rw [h0] at e
    cases e
theorem L_callB {n m i : Nat} {T : En → SR} {t : TA} {A : En → Res (List X)} (ha : LA K E t A) : LE K E (tCallR (spD K n m T) E (tCons (tVar i) t)) (fun ρ => if (coAt ρ i).isSome then dCallB n m T i A ρ else .stuck) := by
  intro F G H σ ρ Q R w
  dsimp only at w
  split at w
  · rename_i hi
    obtain ⟨o0, e0⟩ := Option.isSome_iff_exists.mp hi
    obtain ⟨s, a, h1, h2, h3, h4, h5⟩ := R.co e0
    refine ⟨_, h3, ha F G H σ ρ _ R (w.bind fun vs xs G1 H1 ρ1 R1 s1 hx w1 => ?_)⟩
    cases e : toVals ρ1 xs with
    | none => rw [e] at w1; exact w1.elim
    | some p =>
      obtain ⟨ds, ρ2⟩ := p
      rw [e] at w1
      dsimp only at w1
      obtain ⟨G2, R2, s2, r2⟩ := R1.toVals hx e
      have w2 := w1.mono s2
      cases ec : coAt ρ2 i with
      | none => rw [ec] at w2; exact w2.elim
      | some o =>
        rw [ec] at w2
        dsimp only at w2
        obtain ⟨t', b, g1, g2, g3, g4, g5⟩ := R2.co ec
        rw [h3] at g3
        cases g3
        split at w2
        · rename_i hn
          refine ⟨G2, R2.gh, .inr ⟨a, o, vs, ds, rfl, r2, by rw [r2.len, hn], g4, g5, ?_⟩⟩
          cases er : fin (T (env0 m (.bor o :: ds.map .val))) with
          | ok x ρ' =>
            rw [er] at w2
            intro v G' H' p hx
            obtain ⟨o', e1, _, _⟩ := p.b a rfl
            simp only [callB, e1] at w2
            exact w2 v G' H' (R2.lentAt ec h3 p e1) p.s (retX' R2 ec hx)
          | err x ρ' =>
            rw [er] at w2
            intro c od G' H' p hx
            obtain ⟨o', e1, _, _⟩ := p.b a rfl
            simp only [callB, e1] at w2
            exact w2 c od G' H' (R2.lentAt ec h3 p e1) p.s hx
          | stuck => rw [er] at w2; exact w2
        · exact w2.elim
  · exact w.elim
@[simp] def noF (f : Str) (ks : List Str) : Bool := !ks.contains f
def dMeth (C : Addr) (f : Str) (n m : Nat) (T : En → SR) (A : En → Res X) (B : En → Res (List X)) : En → Res X := fun ρ => (A ρ).bind fun a ρ1 => match toVal ρ1 a with
  | some (.ins C' ks es, ρ2) => if C' = C ∧ noF f ks = true then (B ρ2).bind fun xs ρ3 => match toVals ρ3 xs with
      | some (ds, ρ4) => if ds.length + 1 = n then callV (fin (T (env0 m ((D.ins C' ks es :: ds).map .val)))) ρ4 else .stuck
      | none => .stuck
    else .stuck
  | _ => .stuck
def dProp (C : Addr) (m : Nat) (T : En → SR) (A : En → Res X) : En → Res X := fun ρ => (A ρ).bind fun a ρ1 => match toVal ρ1 a with
  | some (.ins C' ks es, ρ2) => if C' = C then callV (fin (T (env0 m [.val (D.ins C' ks es)]))) ρ2 else .stuck
  | _ => .stuck
def makeV (r : Rt) (ρ : En) : Res X := match r with
  | .ok (.val .non) ρ' => match (ρ'[0]? : Option Slot) with
    | some (.bor o) => .ok (.new o) ρ
    | _ => .stuck
  | .err x _ => .err x ρ
  | _ => .stuck
def dMake (C : Addr) (n m : Nat) (T : En → SR) (A : En → Res (List X)) : En → Res X := fun ρ => (A ρ).bind fun xs ρ1 => match toVals ρ1 xs with
  | some (ds, ρ2) => if ds.length + 1 = n then makeV (fin (T (env0 m (.bor (.ins C [] []) :: ds.map .val)))) ρ2 else .stuck
  | none => .stuck
end
end DL
set_option Elab.async false
set_option linter.all false
set_option maxRecDepth 100000
set_option maxHeartbeats 2000000
namespace DL
open PySem PySem.Spec PyProof.Rows L2 DD
@[simp] def D.ty : D → Value
  | .non => .type "NoneType"
  | .bl _ => .type "bool"
  | .int _ => .type "int"
  | .str _ => .type "str"
  | .tup _ => .type "tuple"
  | .lst _ | .scr _ => .type "list"
  | .ins C _ _ => .ref C
  | .cls _ => .none
@[simp] def D.tyOk (Cs : List Addr) : D → Bool
  | .ins C _ _ => Cs.contains C
  | .cls _ => false
  | _ => true
abbrev Kit := Value → Value → Option Bool
def anyK (kt : Kit) (t : Value) : List Value → Option Bool
  | [] => some false
  | u :: us => match kt t u with
    | some true => some true
    | some false => anyK kt t us
    | none => none
section
variable {K : Fg} {E : XK} {F : Fm} {G G' H H' : Hp} {σ : L2.St} {ρ ρ' : En}
def dIsi (kt : Kit) (Cs : List Addr) (us : List Value) (A : En → Res X) : En → Res X := fun ρ => (A ρ).bind fun a ρ1 => match deref ρ1 a with
  | some d => if d.tyOk Cs = true then lift ((anyK kt d.ty us).map fun b => X.val (.bl b)) ρ1 else .stuck
  | none => .stuck
def callP (p : X → Option X) (r : Rt) (ρ : En) : Res X := match r with
  | .ok x _ => lift (p x) ρ
  | .err x _ => .err x ρ
  | .stuck => .stuck
@[simp] def xStr : X → Option X
  | .val (.str y) => some (.val (.str y))
  | _ => none
@[simp] def xBl : X → Option X
  | .val (.bl y) => some (.val (.bl y))
  | _ => none
@[simp] def xNb : X → Option X
  | .val (.bl y) => some (.val (.bl !y))
  | _ => none
@[simp] def xLen : X → Option X
  | .val (.int i) => if 0 ≤ i ∧ i < 2 ^ 63 then some (.val (.int i)) else none
  | _ => none
def dStrO (C : Addr) (m : Nat) (T : En → SR) (A : En → Res X) : En → Res X := fun ρ => (A ρ).bind fun a ρ1 => match toVal ρ1 a with
  | some (.ins C' ks es, ρ2) => if C' = C then callP xStr (fin (T (env0 m [.val (D.ins C' ks es)]))) ρ2 else .stuck
  | _ => .stuck
def dLenO (C : Addr) (m : Nat) (T : En → SR) (A : En → Res X) : En → Res X := fun ρ => (A ρ).bind fun a ρ1 => match toVal ρ1 a with
  | some (.ins C' ks es, ρ2) => if C' = C then callP xLen (fin (T (env0 m [.val (D.ins C' ks es)]))) ρ2 else .stuck
  | _ => .stuck
def dEqO (p : X → Option X) (C : Addr) (m : Nat) (T : En → SR) (A B : En → Res X) : En → Res X := fun ρ => (A ρ).bind fun a ρ1 => (B ρ1).bind fun b ρ2 => match toVal ρ2 a.settle with
  | some (.ins C' ks es, ρ3) => match toVal ρ3 b.settle with
    | some (.ins C'' ks' es', ρ4) => if C' = C ∧ C'' = C then callP p (fin (T (env0 m [.val (D.ins C' ks es), .val (D.ins C'' ks' es')]))) ρ4 else .stuck
    | _ => .stuck
  | _ => .stuck
theorem Out.mono {ob : Option Addr} {Q Q' : VK} (h : ∀ v H', Q v H' → Q' v H') : ∀ {r : Rt}, Out K E G H ob Q r → Out K E G H ob Q' r
  | .ok x ρ', o => fun v G' H' p hx => h _ _ (o v G' H' p hx)
  | .err x ρ', o => o
  | .stuck, o => o
def lc2L (vs vs1 : List Nat) (U : Tg) (T : En → Res Bool) (S1 : En → Res (List D)) (U1 : Tg) (T1 : En → Res Bool) (A : En → Res X) : List D → En → List D → Res (List D)
  | [], ρ, acc => .ok acc ρ
  | d :: ds, ρ, acc => match U d ρ with
    | none => .stuck
    | some ρ1 => match T ρ1 with
      | .ok true ρ2 => match S1 ρ2 with
        | .ok es ρ3 => if vs1.all (freeAt ρ3) = true then match lcL vs1 U1 T1 A es (wipeN ρ3 vs1) acc with
            | .ok acc' ρ4 => if vs.all (freeAt ρ4) = true then lc2L vs vs1 U T S1 U1 T1 A ds (wipeN ρ4 vs) acc' else .stuck
            | _ => .stuck
          else .stuck
        | _ => .stuck
      | .ok false ρ2 => if vs.all (freeAt ρ2) = true then lc2L vs vs1 U T S1 U1 T1 A ds (wipeN ρ2 vs) acc else .stuck
      | _ => .stuck
def dLc2 (S : En → Res (List D)) (vs vs1 : List Nat) (U : Tg) (T : En → Res Bool) (S1 : En → Res (List D)) (U1 : Tg) (T1 : En → Res Bool) (A : En → Res X) : En → Res X := fun ρ => (S ρ).bind fun ds ρ1 => if vs.all (freeAt ρ1) = true then
    match lc2L vs vs1 U T S1 U1 T1 A ds (wipeN ρ1 vs) [] with
    | .ok es ρ2 => .ok (.new (.lst es)) ρ2
    | _ => .stuck
  else .stuck
end
end DL
set_option Elab.async false
set_option linter.all false
set_option maxRecDepth 100000
set_option maxHeartbeats 2000000
namespace DL
open PySem PySem.Spec PyProof.Rows L2 DD
abbrev opSub : D2 := opI fun i j => .int (i - j)
noncomputable abbrev opMul : D2 := opIC CMul fun i j => .int (i * j)
noncomputable abbrev opFdiv : D2 := opIC CDiv fun i j => .int (i / j)
noncomputable abbrev opMod : D2 := opIC (fun _ j => 0 < j) fun i j => .int (i % j)
noncomputable abbrev opPow : D2 := opIC CPow fun i j => .int (i ^ j.toNat)
abbrev opGt : D2 := opI fun i j => .bl (decide (j < i))
abbrev opGe : D2 := opI fun i j => .bl (decide (j ≤ i))
@[simp] def opNeg : D → Option X
  | .int i => some (.val (.int (-i)))
  | _ => none
def dUn (f : D → Option X) (A : En → Res X) : En → Res X := fun ρ => (A ρ).bind fun a ρ1 => match deref ρ1 a with
  | some d => lift (f d) ρ1
  | none => .stuck
def dLend (n m : Nat) (T : En → SR) (i : Nat) (A : En → Res (List X)) : En → Res X := fun ρ => if (coAt ρ i).isSome then dCallB n m T i A ρ else .stuck
/-- a def that raises nothing -/
def spD0 (K : Fg) (n m : Nat) (T : En → SR) : Sp := fun vs H Q _ => spD K n m T vs H Q E0
/-- the last arguments are the defaults dd -/
@[simp] def fillD (n : Nat) (dd : List D) (ρ : En) : En := env0 ρ.length (ρ.take n ++ dd.map Slot.val)
section
variable {P : Program} {w : World} {K : Fg} {mg : Str → Option Value} {base : Heap} {E : XK} {G H : Hp}
theorem L_lend {n m i : Nat} {T : En → SR} {t : TA} {A : En → Res (List X)} (ha : LA K E t A) : LE K E (tCallR (spD K n m T) E (tCons (tVar i) t)) (dLend n m T i A) := L_callB ha
def dCMeth (C : Addr) (n m : Nat) (T : En → SR) (B : En → Res (List X)) : En → Res X := fun ρ => (B ρ).bind fun xs ρ1 => match toVals ρ1 xs with
  | some (ds, ρ2) => if ds.length + 1 = n then callV (fin (T (env0 m ((D.cls C :: ds).map .val)))) ρ2 else .stuck
  | none => .stuck
def dMakeL (C : Addr) (i n m : Nat) (T : En → SR) (A : En → Res (List X)) : En → Res X := fun ρ => match ρ[i]? with
  | some (.val (.cls C')) => if C' = C then dMake C n m T A ρ else .stuck
  | _ => .stuck
theorem pg_tupK {X : Cx} {K : Fg} {es : List Expr} {k : Nat} {t : TGs} {n : Nat} {pos : Pos} (hc : X.calm = true) (h : PGs X es t)
    (hn : (assignEach es X.env).length = n := by rfl) (hst : (assignEach es X.env).findIdx? (·.1) = none := by rfl) (hK : X.K = K := by rfl) : PG X (.Tuple es k pos) (gTup K n t) := hK ▸ pg_tup hc h hn hst
theorem room5 {k : Nat} {A : Around} (hr : Room k A) : A.units + 65 < cLine := by
  have := hr.un
  omega
structure Cl where
  Day : Addr
  Rule : Addr
  Frame : Addr
  DimError : Addr
  InvalidDay : Addr
  InvalidRule : Addr
  InvalidFrame : Addr
  InvalidText : Addr
  InvalidLooks : Addr
  InvalidSlot : Addr
  InvalidCommand : Addr
  Refused : Addr
  NoMeeting : Addr
  Maker : Addr
  Machine : Addr
  Viewer : Addr
  Live : Addr
  Desk : Addr
def blts : List String := ["int", "bool", "str", "tuple", "list"]
def kitD (Cs : List Addr) : Kit
  | .type a, .type b => kitB a b
  | .ref a, .type b => if a ∈ Cs ∧ b ∈ blts then some false else none
  | .ref a, .ref b => if a = b then some true else none
  | .type a, .ref b => if a = "str" ∧ b ∈ Cs then some false else none
  | _, _ => none
def dSeqI (A : En → Res X) : En → Res (List D) := fun ρ => (A ρ).bind fun a ρ1 => match a with
  | .val d => lift d.items ρ1
  | .new o => lift o.d.items ρ1
  | .own i => match ρ1[i]? with
    | some (.val d) => lift d.items ρ1
    | _ => .stuck
section
variable {E' : XK} {C : Addr} {g : Str} {n m i : Nat} {T : En → SR} {ta tb : TE} {t : TA} {A B : En → Res X} {As : En → Res (List X)} {x qual : Str} {st : Stmt} {f : Addr} {N ps : List Str} {k : Nat}
theorem Lz_call (ha : LA K E0 t As) : LE K E0 (tCallR (spD0 K n m T) E' t) (dCall n m T As) := L_call ha
theorem Lz_lend (ha : LA K E0 t As) : LE K E0 (tCallR (spD0 K n m T) E' (tCons (tVar i) t)) (dLend n m T i As) := L_lend ha
/-- a def without defaults -/
theorem mkDz (F : ∃ fd, Fun K x qual st f fd) (S : FnScope N ps (defScope st)) (hN : ps.length ≤ N.length)
    (hb : ∀ (kV doc pm : Value) (an : Option Addr) (cdv ct : Value) (us : List Value), us.length = ps.length → bindArgs (PySem.W.fnOf x qual (defArgs st) (defBody st) (defScope st) .none kV doc pm an cdv ct) ⟨us, []⟩ = pure (ps.zip us))
    (hbody : ∀ (cdv : Value) (A : Around) (outer : List Env) (s : Shared) (H : Hp) (E : XK), Room k (A.deeper (envOfC qual (defScope st) s.heap.objs.size f cdv)) →
      ∃ t, PSs (cxOf CX0 P w K mg base N qual (defScope st) f cdv A outer s H E).nox (defBody st) t ∧ LS K E0 t T) : FnR P w K mg base CX0 (k + 1) f (spD0 K ps.length N.length T) := by
  obtain ⟨fd, F⟩ := F
  have G : FnOk P w K mg base CX0 (k + 1) f fd ps (spD0 K ps.length N.length T) := F.ok S (fun vs H Q E h => spD_len h) fun cdv A outer s H vs Q E hr hs => by
    obtain ⟨t, h1, h2⟩ := hbody cdv A outer s H E hr
    exact ⟨t, h1, spD_run hN h2 hs⟩
  refine (G.raw (F.binds hb) .nil).imp fun vs H Q E h => ?_
  rw [List.append_nil]
  exact h
end
def spLaw (K : Fg) : Sp := fun vs H Q _ => ∃ (a : Addr) (ns : List Int), vs = [.ref a] ∧ SqL K H a (ns.map V.int) ∧ ns.length ≤ 63 ∧ ∀ H', Q (.bl true) H'
/-- what is left: the law's run upon data -/
def LawOk (m : Nat) (T : En → SR) : Prop := ∀ ns : List Int, ns.length ≤ 63 → ∃ ρ, fin (T (env0 m [.val (.scr (ns.map D.int))])) = .ok (.val (.bl true)) ρ
theorem law_run {E : XK} {N : List Str} {T : En → SR} {t : TS} {vs : List V} {Q : VK} (hN : 1 ≤ N.length) (h : LS K E0 t T) (hl : LawOk N.length T) (hs : spLaw K vs H Q E) : t { nx := fun _ H' => Q .non H', rt := Q } (start N vs) H := by
  obtain ⟨a, ns, rfl, hS, hn, q⟩ := hs
  obtain ⟨ρ, e⟩ := hl ns hn
  refine spD_run (n := 1) hN h ⟨H, Same.refl H, .inl ⟨[.scr (ns.map D.int)], .one (.scr hS .ofInts), rfl, ?_⟩⟩
  show Out K E0 H H none Q (fin (T (env0 N.length [.val (.scr (ns.map D.int))])))
  rw [e]
  intro v G' H' _ hx
  cases hx
  exact q H'
end
end DL
set_option Elab.async false
set_option linter.all false
set_option maxRecDepth 100000
set_option maxHeartbeats 2000000
namespace DD
open PySem PySem.Spec PyProof.Rows L2
def scriptO (vs : List Value) : Obj := { cls := .type "list", data := .seq vs.toArray }
/-- either nothing is tracked, or the script alone -/
def Script (K : PySem.W.Frag) (H : Hp) (a : Addr) (o : Obj) (xs : List V) : Prop := ∀ b, H b = none ∨ (b = a ∧ H b = some (.frz o (.lst xs)) ∧ K.lookup a = none)
section
variable {P : Program} {w : World} {K : PySem.W.Frag} {mg mb : Str → Option Value} {k : Nat} {fa a : Addr} {fd : FuncData} {x : Str} {sp : Sp} {s : Shared} {vs : List Value} {ns : List Int} {H : Hp}
theorem script_core (inK : K.In s.heap) (nsG : s.heap.Ns mainGlobals mg) (nsB : s.heap.Ns builtinsNs mb) (boot : ∀ x : Str, x ≠ "__name__" → mb x = bootBuiltins x) (lim : s.heap.NoLimit) (gens : s.gens = #[]) (at_ : s.heap.get? a = some (scriptO vs))
    (room : Room k callerA) (F : ∀ base : Heap, K.In base → base.Ns mainGlobals mg → FnG P w K mg base k fa fd [x] sp) (binds : ∀ (s : Shared) (u : Value), BindsTo s fd ⟨[u], []⟩ [(x, u)])
    (alone : Script K H a (scriptO vs) (ns.map V.int)) (hok : HOk P w H s.heap) (h : sp [.ref a] H (fun v _ => v = .bl true) fun _ _ _ => False) :
    codeAny (model P w) callerA (.call (.ref fa) ⟨[.ref a], []⟩) (fun r s' => r = .ok (.ret (.bool true)) ∧ OldK s.heap s'.heap ∧ s'.os = s.os ∧ AllBare s'.gens) s := by
  have keepNs : ∀ {b : Addr} {m : Str → Option Value}, s.heap.Ns b m → (hidT s.heap H).Ns b m := by
    rintro b m ⟨o, es, ep, e, dat, r⟩
    refine ⟨o, es, ep, hidT_get e ?_, dat, r⟩
    rcases alone b with z | ⟨rfl, -, -⟩
    · exact z
    · rw [at_] at e
      cases e
      cases (show Data.seq vs.toArray _ = Data.dict es ep from dat)
  have keepK : K.In (hidT s.heap H) := fun b o e => hidT_get (inK b o e) <| by
    rcases alone b with z | ⟨rfl, -, z⟩
    · exact z
    · rw [e] at z
      cases z
  have mod : Mod K mg (hidT s.heap H) := by
    obtain ⟨mc, l1, l2⟩ := lim
    exact ⟨keepK, keepNs nsG, ⟨mb, keepNs nsB, boot⟩, ⟨mc, keepNs l1, l2⟩⟩
  have env : Env0 P w K mg (hidT s.heap H) callerA [] s H :=
    { frames := rfl, mod := mod, bs := fun b o e => of_hidT e, bsz := Nat.le_of_eq (hidT_size _ _), funs := trivial, frf := fun b z => absurd (show b ∈ ([] : List Addr) from z) (by simp), hok := hok, bare := .of_eq gens }
  refine codeAny_mono (F _ keepK (keepNs nsG) callerA [] s H _ [.ref a] [.ref a] _ _ room rfl env (binds s (.ref a)) (.cons rfl .nil) h) fun r s' z => ?_
  match r, z with
  | .ok (.ret u), ⟨v, H', os, bare, un, hok', rv, ev⟩ =>
    have ev' : v = .bl true := ev
    subst ev'
    obtain rfl : u = Value.bool true := rv
    refine ⟨rfl, OldK.of_keep fun b o e => ?_, os, bare⟩
    rcases alone b with z | ⟨rfl, z, -⟩
    · exact un.keep b o e z (by intro y; exact absurd (show b ∈ ([] : List Addr) from y) (by simp)) (by simp)
    · have t := (hok' b _ (un.frzs b _ _ z)).1
      rw [at_] at e
      cases e
      exact t
theorem script_run (inK : K.In s.heap) (nsG : s.heap.Ns mainGlobals mg) (nsB : s.heap.Ns builtinsNs mb) (boot : ∀ x : Str, x ≠ "__name__" → mb x = bootBuiltins x) (lim : s.heap.NoLimit) (gens : s.gens = #[]) (at_ : s.heap.get? a = some (scriptO vs))
    (nums : IntsAre vs ns) (size : ns.length ≤ sizeLine) (room : Room k callerA) (F : ∀ base : Heap, K.In base → base.Ns mainGlobals mg → FnG P w K mg base k fa fd [x] sp) (binds : ∀ (s : Shared) (u : Value), BindsTo s fd ⟨[u], []⟩ [(x, u)])
    (h : ∀ H : Hp, Only H → SqL K H a (ns.map V.int) → sp [.ref a] H (fun v _ => v = .bl true) fun _ _ _ => False) :
    codeAny (model P w) callerA (.call (.ref fa) ⟨[.ref a], []⟩) (fun r s' => r = .ok (.ret (.bool true)) ∧ OldK s.heap s'.heap ∧ s'.os = s.os ∧ AllBare s'.gens) s := by
  have rv := vals_ints nums
  have len := nums.length
  cases e : K.lookup a with
  | some o =>
    have o' := inK a o e
    rw [at_] at o'
    cases o'
    have hs : SqL K (fun _ => none) a (ns.map V.int) := .inr ⟨_, vs.toArray, _, e, rfl, rfl, rfl, by rw [List.size_toArray, len]; exact size, by simpa using rv⟩
    exact script_core (ns := ns) (H := fun _ => none) inK nsG nsB boot lim gens at_ room F binds (fun b => .inl rfl) (fun b u z => nomatch z) (h _ (fun _ => .inl rfl) hs)
  | none =>
    have hs : SqL K (upd (fun _ => none) a (.frz (scriptO vs) (.lst (ns.map V.int)))) a (ns.map V.int) := .inl (.inr ⟨scriptO vs, upd_same⟩)
    have al : Script K (upd (fun _ => none) a (.frz (scriptO vs) (.lst (ns.map V.int)))) a (scriptO vs) (ns.map V.int) := fun b => by
      by_cases hb : b = a
      · exact .inr ⟨hb, by rw [hb]; exact upd_same, e⟩
      · exact .inl (by rw [upd_ne hb])
    refine script_core (H := upd (fun _ => none) a (.frz (scriptO vs) (.lst (ns.map V.int)))) inK nsG nsB boot lim gens at_ room F binds al (fun b u z => ?_) (h _ (fun b => (al b).imp id fun y => ⟨_, _, y.2.1⟩) hs)
    by_cases hb : b = a
    · subst hb
      rw [upd_same] at z
      cases z
      exact ⟨at_, by rw [List.length_map]; exact size, vs, _, rv, at_⟩
    · rw [upd_ne hb] at z
      cases z
end
theorem walk_ofG {l : PySem.W.OpenLaw} {n k : Nat} {q : Program} {loose : List Str} {XP : (Str → Option Value) → Heap → Prop} {YP : World → Heap → Prop} {d : DefRec} {K : Params → PySem.W.Frag} {sp : PySem.W.Frag → Sp} {x : Str}
    (hn : l.most = some n) (hn2 : n ≤ sizeLine) (hdf : d.params.defaults = []) (hr : Room k callerA)
    (hY : ∀ (w : World) (h : Heap), YP w h → (K w.params).In h)
    (F : ∀ (w : World) (mg : Str → Option Value) (fa : Addr) (h : Heap), (K w.params).In h → h.Ns mainGlobals mg → mg d.name = some (.ref fa) →
      ∃ fd : FuncData, (∀ (s : Shared) (u : Value), BindsTo s fd ⟨[u], []⟩ [(x, u)]) ∧ ∀ base : Heap, (K w.params).In base → base.Ns mainGlobals mg → FnG l.prog w (K w.params) mg base k fa fd [x] (sp (K w.params)))
    (hsp : ∀ (K : PySem.W.Frag) (H : Hp) (a : Addr) (ns : List Int), ns.length ≤ n → Only H → SqL K H a (ns.map V.int) → sp K [.ref a] H (fun v _ => v = .bl true) fun _ _ _ => False) :
    PySem.W.WalkO q loose XP YP l.row.toRowW d [] (fun f vs => PySem.call f vs) := by
  refine Att.attach_call hn hdf fun w s₀ s₁ mg mb fa o pm cd doc a vs ns G Y ho hd hcd hmg hobj hints hlen hg => ?_
  obtain ⟨fd, binds, hF⟩ := F w mg fa _ (hY w _ Y) G.T.g hmg
  exact script_run (hY w _ Y) G.T.g G.T.b G.T.builtins G.T.nolimit hg hobj hints (Nat.le_trans hlen hn2) hr hF binds fun H hO hS => hsp (K w.params) H a ns hlen hO hS
/-- the rule for a def, by its body, where the guards are known -/
theorem fun_okG {P : Program} {w : World} {K : PySem.W.Frag} {mg : Str → Option Value} {base : Heap} {x qual : Str} {st : Stmt} {f : Addr} {fd : FuncData} {N ps : List Str} {k : Nat} {sp : Sp} (F : Fun K x qual st f fd) (S : FnScope N ps (defScope st)) (len : ∀ vs H Q E, sp vs H Q E → vs.length = ps.length)
    (hbody : ∀ (cdv : Value) (A : Around) (outer : List Env) (s : Shared) (H : Hp) (vs : List V) (Q : VK) (E : XK), Room k (A.deeper (envOfC qual (defScope st) s.heap.objs.size f cdv)) → (A.deeper (envOfC qual (defScope st) s.heap.objs.size f cdv)).guards = some [] → sp vs H Q E →
      ∃ t, PSs (cxOf CX0 P w K mg base N qual (defScope st) f cdv A outer s H E).nox (defBody st) t ∧ t { nx := fun _ H' => Q .non H', rt := Q } (start N vs) H) : FnG P w K mg base (k + 1) f fd ps sp := by
  obtain ⟨oc, od, kV, doc, pm, an, cdv, ct, osl, rfl, lk, hcd⟩ := F.ex
  exact fnG_of lk hcd S len fun A outer s H vs Q E hr hg h => hbody cdv A outer s H vs Q E hr hg h
end DD
set_option Elab.async false
set_option linter.all false
set_option maxRecDepth 100000
set_option maxHeartbeats 2000000
namespace DL
open PySem PySem.Spec PyProof.Rows L2 DD
section
variable {K : Fg} {E : XK} {F : Fm} {G G' H H' : Hp} {σ σ' : L2.St} {ρ ρ' : En} {ta tb : TE} {A B : En → Res X} {t : TA} {T : En → Res (List X)}
open Classical in
noncomputable def rng3D : List D → Option (List D)
  | [.int i, .int j, .int c] => if RgC i j c (Builtin.Range.rangeSize i j c).toNat then some ((List.range (Builtin.Range.rangeSize i j c).toNat).map fun n => D.int (i + (n : Nat) * c)) else none
  | _ => none
noncomputable def dRng3 (T : En → Res (List X)) : En → Res (List D) := fun ρ => (T ρ).bind fun xs ρ1 => lift ((derefs ρ1 xs).bind rng3D) ρ1
end
theorem pi_enumK {X : Cx} {K : Fg} {e : Expr} {ta : TA} {p pos tpos : Pos} {elts : List Expr} {kk : Nat} (hg : Gl X "enumerate") (hm : X.mg "enumerate" = none) (ha : PA X [e] ta) (h : X.K = K := by rfl) (hs : starEach [e] X.env = [(false, eval e X.env)] := by rfl) :
    PI X (.Tuple elts kk tpos) (.Call (.Name "enumerate" p) [e] [] pos) (iEnum K ta) := h ▸ pi_enum hg hm ha hs
section
variable {K : Fg} {E : XK} {F : Fm} {G G' H H' : Hp} {σ σ' : L2.St} {ρ ρ' : En} {ta tb : TE} {A B : En → Res X} {t : TA} {T : En → Res (List X)}
theorem RepXs.app : ∀ {vs ws : List V} {xs ys : List X}, RepXs K F G H σ ρ vs xs → RepXs K F G H σ ρ ws ys → RepXs K F G H σ ρ (vs ++ ws) (xs ++ ys)
  | _, _, _, _, .nil, h => h
  | _, _, _, _, .cons h n r, h' => .cons h n (RepXs.app r h')
end
end DL
set_option Elab.async false
set_option linter.all false
set_option maxRecDepth 100000
set_option maxHeartbeats 2000000
namespace DD
open PySem PySem.Spec PyProof.Rows L2
end DD
set_option Elab.async false
set_option linter.all false
set_option maxRecDepth 100000
set_option maxHeartbeats 2000000
namespace DD
open PySem PySem.Spec PyProof.Rows L2
end DD
set_option Elab.async false
set_option linter.all false
set_option maxRecDepth 100000
set_option maxHeartbeats 2000000
namespace DD
open PySem PySem.Spec PyProof.Rows L2
/-- a promise by n positional values and the values of the keywords ks -/
structure FnK (P : Program) (w : World) (K : PySem.W.Frag) (mg : Str → Option Value) (base : Heap) (CX : CXT) (k : Nat) (f : Addr) (n : Nat) (ks : List Str) (sp : Sp) : Prop where
  len : ∀ vs H Q E, sp vs H Q E → vs.length = n + ks.length
  run : ∀ (A : Around) (outer : List Env) (s : Shared) (H : Hp) (us ws : List Value) (vs zs : List V) (Q : VK) (E : XK), Room k A → Env0 P w K mg base A outer s H → Vals vs us → Vals zs ws → vs.length = n → zs.length = ks.length → sp (vs ++ zs) H Q E →
    codeAny (model P w) A (.call (.ref f) ⟨us, ks.zip ws⟩) (CR CX outer P w H s Q E) s
section
variable {P : Program} {w : World} {K : PySem.W.Frag} {mg : Str → Option Value} {base : Heap} {CX : CXT} {j k n : Nat} {f : Addr} {sp sp' : Sp} {ks : List Str}
theorem FnK.mono (F : FnK P w K mg base CX j f n ks sp) (h : j ≤ k) : FnK P w K mg base CX k f n ks sp := ⟨F.len, fun A outer s H us ws vs zs Q E hr => F.run A outer s H us ws vs zs Q E (hr.mono h)⟩
end
end DD
set_option Elab.async false
set_option linter.all false
set_option maxRecDepth 100000
set_option maxHeartbeats 2000000
namespace DD
open PySem PySem.Spec PyProof.Rows L2
end DD
set_option Elab.async false
set_option linter.all false
set_option maxRecDepth 100000
set_option maxHeartbeats 2000000
namespace DL
open PySem PySem.Spec PyProof.Rows L2 DD
def pick {α : Type} (d : α) (l : List α) (π : List Nat) : List α := π.map fun i => l.getD i d
@[simp] theorem pick_nil {α : Type} (d : α) (l : List α) : pick d l [] = [] := rfl
@[simp] theorem pick_cons {α : Type} (d : α) (l : List α) (i : Nat) (π : List Nat) : pick d l (i :: π) = l.getD i d :: pick d l π := rfl
/-- the arguments in the parameters' order, the defaults dd among them -/
@[simp] def permD (n : Nat) (dd : List D) (π : List Nat) (ρ : En) : En := env0 ρ.length (pick Slot.none (ρ.take n ++ dd.map Slot.val) π)
end DL
set_option Elab.async false
set_option linter.all false
set_option maxRecDepth 100000
set_option maxHeartbeats 2000000
namespace DL
open PySem PySem.Spec PyProof.Rows L2 DD
@[simp] def slD : En → List D
  | [] => []
  | .val d :: r => d :: slD r
  | _ :: _ => []
/-- p.but(k = v, ..): Rule(..) of the five, those with a place beyond 4 told by name -/
@[simp] def dBut (C : Addr) (m : Nat) (Ti : En → SR) (π : List Nat) : En → SR := fun ρ => match ρ with
  | .val (.ins C' ks es) :: zs => if C' = C then match getF "step" ks es, getF "gap" ks es, getF "least" ks es, getF "private" ks es, getF "hours" ks es with
    | some d1, some d2, some d3, some d4, some d5 => match makeV (fin (Ti (env0 m (.bor (.ins C [] []) :: (pick .non ([d1, d2, d3, d4, d5] ++ slD zs) π).map .val)))) ρ with
      | .ok x ρ' => .rt x ρ'
      | .err x ρ' => .err x ρ'
      | .stuck => .stuck
    | _, _, _, _, _ => .stuck
  else .stuck
  | _ => .stuck
end DL
set_option Elab.async false
set_option linter.all false
set_option maxRecDepth 100000
set_option maxHeartbeats 2000000
namespace DL
open PySem PySem.Spec PyProof.Rows L2 DD
def pickS (xs : List D) (lo hi : Option Int) (st : Int) : List D :=
  (sliceRange (sliceBounds lo hi (some st) xs.length).1 (sliceBounds lo hi (some st) xs.length).2.1 (sliceBounds lo hi (some st) xs.length).2.2).filterMap (xs[·]?)
def opSl3 (st : Int) : D → Option Int → Option Int → Option X
  | .lst ds, lo, hi => if (pickS ds lo hi st).length ≤ sizeLine then some (.new (.lst (pickS ds lo hi st))) else none
  | _, _, _ => none
def dSl3 (st : Int) (A : En → Res X) (L U : En → Res (Option Int)) : En → Res X := fun ρ => (A ρ).bind fun a ρ1 => (L ρ1).bind fun lo ρ2 => (U ρ2).bind fun hi ρ3 => match deref ρ3 a.settle with
  | some d => lift (opSl3 st d lo hi) ρ3
  | none => .stuck
@[simp] def uLst (n : Nat) (Us : Tgs) : Tg := fun d ρ => match d with
  | .lst ds => if ds.length = n then Us ds ρ else none
  | _ => none
def dEqOS (C : Addr) (m : Nat) (T : En → SR) (A B : En → Res X) : En → Res X := fun ρ => (A ρ).bind fun a ρ1 => (B ρ1).bind fun b ρ2 => match toVal ρ2 a.settle with
  | some (.ins C' ks es, ρ3) => match toVal ρ3 b.settle with
    | some (.str z, ρ4) => if C' = C then callP xBl (fin (T (env0 m [.val (D.ins C' ks es), .val (D.str z)]))) ρ4 else .stuck
    | _ => .stuck
  | _ => .stuck
end DL
set_option Elab.async false
set_option linter.all false
set_option maxRecDepth 100000
set_option maxHeartbeats 2000000
namespace DL
open PySem PySem.Spec PyProof.Rows L2 DD
def dIxO (C : Addr) (m : Nat) (T : En → SR) (A B : En → Res X) : En → Res X := fun ρ => (A ρ).bind fun a ρ1 => (B ρ1).bind fun b ρ2 => match toVal ρ2 a.settle with
  | some (.ins C' ks es, ρ3) => match toVal ρ3 b.settle with
    | some (z, ρ4) => if C' = C then callV (fin (T (env0 m [.val (D.ins C' ks es), .val z]))) ρ4 else .stuck
    | none => .stuck
  | _ => .stuck
theorem fnR_stuck {P : Program} {w : World} {K : Fg} {mg : Str → Option Value} {base : Heap} {CX : CXT} {k n m : Nat} {f : Addr} : FnR P w K mg base CX k f (spD0 K n m fun _ => .stuck) := by
  intro A outer s H us vs Q E hr e0 r h
  obtain ⟨G, _, h⟩ := h
  rcases h with ⟨ds, _, _, o⟩ | ⟨a, o', ws, ds, _, _, _, _, _, o⟩
  · exact o.elim
  · exact o.elim
end DL
set_option Elab.async false
set_option linter.all false
set_option maxRecDepth 100000
set_option maxHeartbeats 2000000
namespace DD
open PySem PySem.Spec PyProof.Rows L2 HT
end DD
set_option Elab.async false
set_option linter.all false
set_option maxRecDepth 100000
set_option maxHeartbeats 2000000
namespace DL
open PySem PySem.Spec PyProof.Rows L2 DD
end DL
set_option Elab.async false
set_option linter.all false
set_option maxRecDepth 100000
set_option maxHeartbeats 2000000
namespace DD
open PySem PySem.Spec PyProof.Rows L2
/-- self.f = v of a new error -/
def spI (K : PySem.W.Frag) (f : Str) : Sp := fun vs H Q _ => ∃ (a C : Addr) (y : V), vs = [.ref a, y] ∧ OexC K C ∧ PySem.W.findIn K (.ref C) f = some none ∧ H a = some (exo a C none) ∧
  ∀ dx, H dx = none → dx ≠ a → Q .non (upd (upd H dx (exd dx [(f, y)])) a (exo a C (some dx)))
section
variable {P : Program} {w : World} {K : PySem.W.Frag} {mg : Str → Option Value} {base : Heap}
theorem ok_exI {qual : Str} {st : Stmt} {fI : Addr} {fd : FuncData} {f : Str} {N : List Str} (F : Fun K "__init__" qual st fI fd) (S : FnScope N N (defScope st)) (hN : N.length = 2)
    (hb : ∀ (cdv : Value) (A : Around) (outer : List Env) (s : Shared) (H : Hp) (E : XK), PSs (cxOf CX0 P w K mg base N qual (defScope st) fI cdv A outer s H E).nox (defBody st) (tOst K f (tVar 0) (tVar 1))) :
    FnOk P w K mg base CX0 1 fI fd N (spI K f) := by
  refine F.ok S (fun vs H Q E h => ?_) fun cdv A outer s H vs Q E hr h => ⟨_, hb cdv A outer s H E, ?_⟩
  · obtain ⟨a, C, y, rfl, _⟩ := h
    rw [hN]
    rfl
  · obtain ⟨a, C, y, rfl, T, no, ea, q⟩ := h
    match N, hN with
    | [_, _], _ => exact ⟨y, rfl, V.ref a, rfl, a, C, rfl, T, no, .inl ⟨ea, fun dx h1 h2 => q dx h1 h2⟩⟩
end
end DD
set_option Elab.async false
set_option linter.all false
set_option maxRecDepth 100000
set_option maxHeartbeats 2000000
namespace DL
open PySem PySem.Spec PyProof.Rows L2 DD
def nE {α : Type} (A : En → Res α) : En → Res α := fun ρ => match A ρ with
  | .err _ _ => .stuck
  | r => r
def nS (S : En → SR) : En → SR := fun ρ => match S ρ with
  | .err _ _ => .stuck
  | r => r
section
variable {α β : Type} {K : Fg} {E : XK}
theorem L_no {rel : Rel β α} {t : L2.St → Hp → (β → Hp → Prop) → Prop} {T : En → Res α} (h : LG K E0 rel t T) : LG K E rel t (nE T) := by
  intro F G H σ ρ Q R w
  refine h F G H σ ρ Q R ?_
  unfold nE at w
  cases e : T ρ with
  | ok a ρ' => rw [e] at w; exact w
  | err x ρ' => rw [e] at w; exact w.elim
  | stuck => rw [e] at w; exact w.elim
end
def WSW (K : Fg) (W : WX) (F : Fm) (D : Ends) : SR → Prop
  | .nx ρ => ∀ σ G H, Rl K F G H σ ρ → D.nx σ H
  | .rt x ρ => ∀ v σ G H, Rl K F G H σ ρ → RepX K F G H σ ρ v x → D.rt v H
  | .bk ρ => ∀ σ G H, Rl K F G H σ ρ → D.bk σ H
  | .ct ρ => ∀ σ G H, Rl K F G H σ ρ → D.ct σ H
  | .err x ρ => ∀ c od σ G H, Rl K F G H σ ρ → XRep K G H c od x → W c od σ H
  | .stuck => False
def LSW (K : Fg) (W : WX) (t : TS) (T : En → SR) : Prop := ∀ (F : Fm) (G H : Hp) (σ : L2.St) (ρ : En) (D : Ends), Rl K F G H σ ρ → WSW K W F D (T ρ) → t D σ H
/-- an expression's -/
def LEW (K : Fg) (W : WX) (t : TE) (T : En → Res X) : Prop := ∀ (F : Fm) (G H : Hp) (σ : L2.St) (ρ : En) (Q : VK), Rl K F G H σ ρ → Wants K (WE W σ) (RepX K) F G σ Q (T ρ) → t σ H Q
section
variable {α β : Type} {K : Fg} {W : WX} {F : Fm} {G G' H H' : Hp} {σ : L2.St} {ρ ρ' : En} {t u s : TS} {T S U : En → SR} {ta : TE} {A : En → Res X} {tt : TT} {B : En → Res Bool}
theorem LEW.no (h : LE K E0 ta A) : LEW K W ta (nE A) := fun F G H σ ρ Q R w => L_no (E := WE W σ) h F G H σ ρ Q R w
theorem LSW.no (h : LS K E0 t T) : LSW K W t (nS T) := by
  intro F G H σ ρ D R w
  refine h F G H σ ρ D R ?_
  unfold nS at w
  cases e : T ρ <;> rw [e] at w <;> first | exact w | exact w.elim
theorem WSW.sb {rel : Rel β α} {D : Ends} {Q1 : β → Hp → Prop} {r : Res α} {U : α → En → SR} (h : WSW K W F D (r.sb U))
    (k : ∀ b a G' H' ρ', Rl K F G' H' σ ρ' → Same G G' → rel F G' H' σ ρ' b a → WSW K W F D (U a ρ') → Q1 b H') : Wants K (WE W σ) rel F G σ Q1 r := by
  cases r with
  | ok a ρ' => exact fun b G2 H2 R s q => k b a G2 H2 ρ' R s q h
  | err x ρ' => exact fun c od G2 H2 R _ x => h c od σ G2 H2 R x
  | stuck => exact h
theorem LSW.nx : LSW K W tNext sNext := fun F G H σ ρ D R w => w σ G H R
theorem LSW.seq (h1 : LSW K W s S) (h2 : LSW K W u U) : LSW K W (tSeq s u) (sSeq S U) := by
  intro F G H σ ρ D R w
  refine h1 F G H σ ρ _ R ?_
  unfold sSeq at w
  cases e : S ρ with
  | nx ρ1 =>
    rw [e] at w
    exact fun σ' G' H' R' => h2 F G' H' σ' ρ1 D R' w
  | rt x ρ1 => rw [e] at w; exact w
  | bk ρ1 => rw [e] at w; exact w
  | ct ρ1 => rw [e] at w; exact w
  | err x ρ1 => rw [e] at w; exact w
  | stuck => rw [e] at w; exact w
theorem LSW.drop (ha : LEW K W ta A) : LSW K W (tDrop ta) (sDrop A) := by
  intro F G H σ ρ D R w
  exact ha F G H σ ρ _ R (w.sb fun b a G' H' ρ' R' _ _ w' => w' σ G' H' R')
theorem LSW.ret (ha : LEW K W ta A) : LSW K W (tRet ta) (sRet A) := by
  intro F G H σ ρ D R w
  exact ha F G H σ ρ _ R (w.sb fun b a G' H' ρ' R' _ hx w' => w' b σ G' H' R' hx)
theorem WSW.ws {D : Ends} {r : SR} (h : ∀ x ρ, r ≠ .err x ρ) (w : WSW K W F D r) : WS K E0 F D r := by
  cases r <;> first | exact w | exact (h _ _ rfl).elim
theorem LSW.set {i : Nat} (ha : LEW K W ta A) : LSW K W (tAsg ta (gName i)) (sSet i A) := by
  intro F G H σ ρ D R w
  refine ha F G H σ ρ _ R (w.sb fun b a G' H' ρ' R' _ hx w' => put_run R' hx (WSW.ws (fun x ρ1 => ?_) w'))
  unfold putX
  cases a with
  | val d => dsimp only; split <;> (intro z; cases z)
  | new o => dsimp only; split <;> (intro z; cases z)
  | own j =>
    dsimp only
    split
    · split <;> (intro z; cases z)
    · intro z; cases z
end
/-- the error that is caught: at a, in slot i, its fields in d -/
def HX (K : Fg) (a : Addr) (i : Nat) (x : Xc) (d : Option Addr) (G : Hp) (σ : L2.St) : Prop := σ[i]? = some (some (.ref a)) ∧ ((d = none ∧ x.ks = []) ∨ ∃ e fs, d = some e ∧ G e = some (.xd fs) ∧ fs.map (·.1) = x.ks ∧ RepA K G (fs.map (·.2)) x.ds)
theorem HX.mono {K : Fg} {a : Addr} {i : Nat} {x : Xc} {d : Option Addr} {G G' : Hp} {σ : L2.St} (s : Same G G') (h : HX K a i x d G σ) : HX K a i x d G' σ := by
  obtain ⟨h1, h2⟩ := h
  refine ⟨h1, ?_⟩
  rcases h2 with h2 | ⟨e, fs, e1, e2, e3, e4⟩
  · exact .inl h2
  · exact .inr ⟨e, fs, e1, s _ _ e2, e3, e4.mono s⟩
def LGx {α β : Type} (K : Fg) (a : Addr) (i : Nat) (x : Xc) (d : Option Addr) (rel : Rel β α) (t : L2.St → Hp → (β → Hp → Prop) → Prop) (T : En → Res α) : Prop :=
  ∀ (F : Fm) (G H : Hp) (σ : L2.St) (ρ : En) (Q : β → Hp → Prop), Rl K F G H σ ρ → HX K a i x d G σ → Wants K E0 rel F G σ Q (T ρ) → t σ H Q
section
variable {α β γ δ : Type} {K : Fg} {a : Addr} {i : Nat} {x : Xc} {d : Option Addr} {ta tb : TE} {A B : En → Res X} {t u : TT} {T U : En → Res Bool}
theorem LGx.bind {rel : Rel β α} {rel2 : Rel δ γ} {t : L2.St → Hp → (β → Hp → Prop) → Prop} {T : En → Res α} {k : β → L2.St → Hp → (δ → Hp → Prop) → Prop} {U : α → En → Res γ} (h : LGx K a i x d rel t T)
    (h2 : ∀ F G H σ ρ b z Q, Rl K F G H σ ρ → HX K a i x d G σ → rel F G H σ ρ b z → Wants K E0 rel2 F G σ Q (U z ρ) → k b σ H Q) : LGx K a i x d rel2 (fun σ H Q => t σ H fun b H1 => k b σ H1 Q) (fun ρ => (T ρ).bind U) := by
  intro F G H σ ρ Q R hx w
  exact h F G H σ ρ _ R hx (w.bind fun b z G' H' ρ' R' s q w' => h2 F G' H' σ ρ' b z Q R' (hx.mono s) q w')
end
section
variable {P : Program} {w : World} {K : Fg} {mg : Str → Option Value} {base : Heap} {E : XK} {H : Hp}
/-- from what k_is finds -/
theorem exm_selfX {S : Addr} (h1 : PySem.W.subIn K (.ref S) (.type "BaseException") = some true) (h2 : PySem.W.isClsIn K S = true) (h3 : PySem.W.typeIn K (.ref S) = some (.type "type")) (h4 : PySem.W.subIn K (.ref S) (.ref S) = some true) : PySem.W.exmOne K (.ref S) (.ref S) = some true := by
  have e1 : (PySem.W.subIn K (.ref S) (.type "BaseException") == some true) = true := by rw [h1] <;> rfl
  have h2' : (PySem.W.clsIn K S).isSome = true := h2
  unfold PySem.W.exmOne PySem.W.kitCls
  rw [if_pos e1]
  dsimp only
  rw [if_pos (by rw [h2', h3] <;> rfl)]
  exact h4
theorem kit_ref {A B : Addr} {b : Bool} (h2 : PySem.W.isClsIn K B = true) (h3 : PySem.W.typeIn K (.ref B) = some (.type "type")) (h4 : PySem.W.subIn K (.ref A) (.ref B) = some b) (h5 : PySem.W.subIn K (.ref A) (.ref A) = some true) : PySem.W.kitOne K (.ref A) (.ref B) = some b := by
  unfold PySem.W.kitOne
  have h2' : (PySem.W.clsIn K B).isSome = true := h2
  by_cases q : A = B
  · have e : ((Value.ref A) == (Value.ref B)) = true := by rw [q]; exact beq_self_eq_true _
    rw [if_pos e]
    rw [← q, h5] at h4
    exact h4
  · have e : ((Value.ref A) == (Value.ref B)) = false := by
      rw [beq_eq_false_iff_ne]
      intro z
      exact q (Value.ref.inj z)
    rw [e]
    unfold PySem.W.kitCls
    dsimp only
    rw [if_neg Bool.false_ne_true, if_pos (by rw [h2', h3] <;> rfl)]
    exact h4
/-- an error's class, as raise wants it -/
def ExR (P : Program) (w : World) (K : Fg) (mg : Str → Option Value) (base : Heap) (C : Addr) (f : Str) : Prop := ∃ (fI : Addr) (fd : FuncData) (ps : List Str), OexC K C ∧ PySem.W.findIn K (.ref C) f = some none ∧ PySem.W.findIn K (.ref C) "__init__" = some (some (.ref fI)) ∧
  PySem.W.typeIn K (.ref fI) = some (.type "function") ∧ FnOk P w K mg base CX0 1 fI fd ps (spI K f) ∧ Binds K fd ps []
end
end DL
set_option Elab.async false
set_option linter.all false
set_option maxRecDepth 100000
set_option maxHeartbeats 2000000
namespace DD
open PySem PySem.Spec PyProof.Rows L2
end DD
set_option Elab.async false
set_option linter.all false
set_option maxRecDepth 100000
set_option maxHeartbeats 2000000
namespace DL
open PySem PySem.Spec PyProof.Rows L2 DD
end DL
set_option Elab.async false
set_option linter.all false
set_option maxRecDepth 100000
set_option maxHeartbeats 2000000
namespace DD
open PySem PySem.Spec PyProof.Rows L2
end DD
set_option Elab.async false
set_option linter.all false
set_option maxRecDepth 100000
set_option maxHeartbeats 2000000
namespace DL
open PySem PySem.Spec PyProof.Rows L2 DD
end DL
set_option Elab.async false
set_option linter.all false
set_option maxRecDepth 100000
set_option maxHeartbeats 2000000
namespace DD
open PySem PySem.Spec PyProof.Rows L2
end DD
set_option Elab.async false
set_option linter.all false
set_option maxRecDepth 100000
set_option maxHeartbeats 2000000
namespace DL
open PySem PySem.Spec PyProof.Rows L2 DD
end DL
set_option Elab.async false
set_option linter.all false
set_option maxRecDepth 100000
set_option maxHeartbeats 2000000
namespace DD
open PySem PySem.Spec PyProof.Rows L2
end DD
set_option Elab.async false
set_option linter.all false
set_option maxRecDepth 100000
set_option maxHeartbeats 2000000
namespace DL
open PySem PySem.Spec PyProof.Rows L2 DD
@[simp] def opNotInT : D2
  | .str i, .str j => some (.val (.bl (!(!(Builtin.Str.occurrences j i 0 j.length 1).isEmpty))))
  | _, _ => none
end DL
set_option Elab.async false
set_option linter.all false
set_option maxRecDepth 100000
set_option maxHeartbeats 2000000
namespace DD
open PySem PySem.Spec PyProof.Rows L2
abbrev Cl1 := Value × (Addr → Value → Option Addr → TS)
section
variable {X : Cx} {n : Str} {i : Nat} {hds : List ExceptHandler} {l : List Cl1} {pins : List (Addr × Obj)} {σ : L2.St} {H : Hp} {D : Ends}
/-- what stands when an error has been looked at -/
structure Caught (X : Cx) (pins : List (Addr × Obj)) (σ : L2.St) (H : Hp) (a : Addr) (cls : Value) (d : Option Addr) (B : Heap) (sI s : Shared) : Prop where
  inv : Inv X pins σ H sI
  nb : ∀ b o, sI.heap.get? b = some o → b ∉ frs X.stack → B.get? b = some o
  up : sI.heap.UpToSlots s.heap
  na : H a = none
  os : s.os = sI.os
  ag : AllBare s.gens
  fl : HandSPX.FlyingZ B (X.env :: X.outer) a (Zc cls d) s.heap
theorem Caught.at {a : Addr} {cls : Value} {d : Option Addr} {B : Heap} {sI s : Shared} (C : Caught X pins σ H a cls d B sI s) (hf : X.env.frame = some X.env.locals) :
    ∃ oe, s.heap.get? a = some oe ∧ Zc cls d oe ∧ (∃ vs, oe.data = .fields vs) ∧ Inv (X.suite a ((a, oe) :: (X.pn ++ pins))) [] σ H s := by
  have J := C.inv.landed C.nb C.fl.1 C.up C.os C.ag
  obtain ⟨oe, vs, e1, e2, e3⟩ := C.fl.there
  have far : a ∉ frs (X.env :: X.outer) := fun q => by
    obtain ⟨_, o2, g, nf⟩ := C.fl.2.2.1.mem q
    rw [e1] at g
    cases g
    exact nf _ e3
  refine ⟨oe, e1, e2, ⟨vs, e3⟩, J.suite e1 e3 C.na (fun z => ?_) fun q => ?_⟩
  · exact far (List.mem_filterMap.mpr ⟨X.env, .head _, by rw [hf, z]⟩)
  · obtain ⟨e, m, q2⟩ := List.mem_filterMap.mp q
    exact far (List.mem_filterMap.mpr ⟨e, .tail _ m, q2⟩)
end
end DD
set_option Elab.async false
set_option linter.all false
set_option maxRecDepth 100000
set_option maxHeartbeats 2000000
namespace DL
open PySem PySem.Spec PyProof.Rows L2 DD
end DL
set_option Elab.async false
set_option linter.all false
set_option maxRecDepth 100000
set_option maxHeartbeats 2000000
namespace DD
open PySem PySem.Spec PyProof.Rows L2
theorem vals_app {xs ys : List V} {its jts : List Value} (h : Vals xs its) (h2 : Vals ys jts) : Vals (xs ++ ys) (its ++ jts) := by
  induction h with
  | nil => exact h2
  | cons r t ih => exact .cons r ih
theorem vals_rep {xs : List V} {its : List Value} (h : Vals xs its) : ∀ k : Nat, Vals (List.replicate k xs).flatten (List.replicate k its).flatten
  | 0 => .nil
  | k + 1 => by
    rw [List.replicate_succ, List.replicate_succ, List.flatten_cons, List.flatten_cons]
    exact vals_app h (vals_rep h k)
theorem len_rep' {α : Type} (xs : List α) (k : Nat) : (List.replicate k xs).flatten.length = xs.length * k := by
  induction k with
  | zero => rfl
  | succ k ih =>
    rw [List.replicate_succ, List.flatten_cons, List.length_append, ih, Nat.mul_succ]
    omega
theorem op_mul_li {X : Cx} : OpR X (binaryOp .Mult) (fun x y H Q => ∃ a xs k, x = V.ref a ∧ y = V.int k ∧ SqL X.K H a xs ∧ 0 ≤ k ∧ k ≤ 1000000 ∧ xs.length * k.toNat ≤ sizeLine ∧ ∀ p, H p = none → Q (.ref p) (upd H p (.lst (List.replicate k.toNat xs).flatten))) := by
  intro pins s σ H x y v u Q I rx ry h
  obtain ⟨a, xs, k, rfl, rfl, hs, h0, h1, h2, q⟩ := h
  obtain rfl : v = Value.ref a := rx
  obtain ⟨tk, rfl⟩ := ry
  obtain ⟨its, rv, ⟨⟨cls, dd, data, sl⟩, n, ho, hc, hdn, hd⟩, hlen⟩ := I.list hs
  have hc1 : cls = Value.type "list" := hc
  have hd1 : data = Data.seq its.toArray n := hd
  subst hc1 hd1
  have hsl := sizeLine_eq
  have hle : its.length * k.toNat ≤ sizeLine := by rw [← rv.length]; exact h2
  have hm : its.toArray.size * k.toNat ≤ sizeLine := by simpa using hle
  refine wpAny_binaryOp_repeat_ref (T := "list") (U := "int") (by decide) ⟨_, ho, rfl⟩ (fun s' => typeIs_int s' k tk) noFill_list_mul F.fills_int_mul F.slot_int_rmul repeat_list F.slot_int_index.lookup
    (call_meets F.slot_int_rmul (typeIs_int s k tk) F.entry_int_rmul (F.args_int_rmul_2 _ _) (lm_int_rmul_list_any k tk a its.toArray n dd sl)
      ⟨ho, rfl, ⟨_, ho, rfl⟩, call_meets F.slot_list_mul ⟨_, ho, rfl⟩ F.entry_list_mul (F.args_list_mul_2 _ _)
        (lm_list_mul_any a its.toArray n dd sl k tk (by simp [Builtin.List.listFitsIndex]; omega) (by omega) (by simp only [Builtin.List.listTooLong, decide_eq_true_eq]; omega))
        ⟨ho, ?_⟩⟩)
  rw [listMul_foldl_if]
  refine ⟨.ref s.heap.objs.size, upd H s.heap.objs.size (.lst (List.replicate k.toNat xs).flatten), I.laid (t' := s.toks) (fun b o e => Heap.get?_push_of_some _ e) (Nat.le_refl _) ⟨by rw [len_rep']; exact h2, _, 0, vals_rep rv k.toNat, Heap.get?_push_size _ rfl⟩, rfl, q _ (I.hok.fresh (Nat.le_refl _))⟩
end DD
set_option Elab.async false
set_option linter.all false
set_option maxRecDepth 100000
set_option maxHeartbeats 2000000
namespace DD
open PySem PySem.Spec PyProof.Rows L2
end DD
set_option Elab.async false
set_option linter.all false
set_option maxRecDepth 100000
set_option maxHeartbeats 2000000
namespace DL
open PySem PySem.Spec PyProof.Rows L2 DD
def rRep (K : Fg) : R2 := fun x y H Q => ∃ a xs k, x = V.ref a ∧ y = V.int k ∧ SqL K H a xs ∧ 0 ≤ k ∧ k ≤ 1000000 ∧ xs.length * k.toNat ≤ sizeLine ∧ ∀ p, H p = none → Q (.ref p) (upd H p (.lst (List.replicate k.toNat xs).flatten))
theorem op_rep {X : Cx} {K : Fg} (h : X.K = K := by rfl) : OpR X (binaryOp .Mult) (rRep K) := h ▸ op_mul_li
end DL
set_option Elab.async false
set_option linter.all false
set_option maxRecDepth 100000
set_option maxHeartbeats 2000000
namespace PySem
namespace IeX
open PySem.W PySem.Calls PyProof.Rows PySem.HandSPX
open Builtin Builtin.ObjectAttr
abbrev ieTail : List Value := [.type "IndexError", .type "LookupError", .type "Exception", .type "BaseException", .type "object"]
theorem ie_pass (self : Value) (C : Addr) : refuseLoop self "__setattr__" (.ref C :: ieTail) = pure () := by
  rw [refuseLoop_ref]
  exact F.store_IndexError.passes self
theorem ie_has (C : Addr) : (Value.ref C :: ieTail).contains (.type "object") = true := by
  rw [List.contains_cons, Bool.or_eq_true]
  exact .inr (by decide +kernel)
section
variable {prog : Program} {w : World} {A : Around} {R : Result → Shared → Prop} {hp : Heap} {g : Array GenState} {d : Drawn} {t : Nat} {os : OsState}
/-- object.__setattr__ of a new error -/
theorem ie_osa {K : W.Frag} {fld : Str} {tk : Tok} {u : Value} {e C : Addr} {fs : Array Value} {cd : ClassData}
    (kin : K.In hp) (he : hp.get? e = some { cls := .ref C, data := .fields fs })
    (hcd : W.clsIn K C = some cd) (hm : cd.mro = .ref C :: ieTail) (hd : cd.hasDict = true) (no : W.findIn K (.ref C) fld = some none)
    (next : ∀ hp2 tk2 dx, (∀ b o, b ≠ e → hp.get? b = some o → hp2.get? b = some o) → hp.objs.size ≤ dx → dx ≠ e →
      hp2.get? e = some { cls := .ref C, dict := some dx, data := .fields fs } → hp2.Ns1 dx (fun y => if y = fld then some u else none) →
      R (.ok (.ret .none)) ⟨hp2, g, d, tk2, os⟩) :
    codeAny (model prog w) A (.call (.builtin "object.__setattr__") ⟨[.ref e, .str fld tk, u], []⟩) R ⟨hp, g, d, t, os⟩ := by
  have at_ : W.InstAt hp e { cls := .ref C, data := .fields fs } C none := ⟨he, rfl, rfl, trivial⟩
  have far : e ≠ hp.objs.size := Nat.ne_of_lt (Heap.lt_size he)
  have inst : W.Looks (model prog w) hp (isInstance (.ref e) (.type "object")) true := at_.type.andThen (W.looks_mroIn kin (by
    unfold W.mroIn
    rw [hcd, Option.bind_some, if_neg (by rw [hm]; simp), hm, ie_has]))
  refine codeAny_call_builtin F.store_object.slot.plain F.store_object.entry
    (@W.check_slot (model prog w) _ _ ⟨hp, g, d, t, os⟩ "object.__setattr__" "object" "__setattr__" (.ref e) [.str fld tk, u] [] _
      F.store_object.kind F.store_object.split inst (F.store_object.args (.ref e) (.str fld tk) u) ?_)
  have look : W.Looks (model prog w) hp (classData C) cd := W.looks_clsIn kin hcd
  have mro : W.Looks (model prog w) hp (mroOf (.ref C)) cd.mro := look.andThen .now
  have taker : W.Looks (model prog w) hp (storeTaker? none) none := .now
  rw [W.osa_eq, refuse_eq]
  refine wpAny_bind (wpAny_bind (at_.type.at (wpAny_bind (mro.at ?_))))
  rw [hm, ie_pass]
  refine wpAny_pure (wpAny_bind (at_.type.at (wpAny_bind ((W.looks_findIn kin no).at (wpAny_bind (taker.at ?_))))))
  show wpAny _ _ (storeInOwnDict (.ref e) (.ref C) (.str fld tk) fld u false) _ _ _
  cases cd with
  | mk nm bs mr ns qn hdd sn sb ab col del =>
    dsimp only at hd
    subst hd
    unfold storeInOwnDict ownDictForStores
    repeat (first | with_reducible refine store_in_new ?_ ?_ | with_reducible refine wpAny_loadPart_at he ?_ | with_reducible refine look.at ?_ | wp_step)
    · exact ⟨_, #[], _, (Heap.get?_update_ne _ _ _ _ far.symm).trans (Heap.get?_push_at rfl rfl), rfl, fun y hy => absurd hy (by simp), fun _ => rfl⟩
    · intro hp2 tk2 hns same
      have he2 : (hp.push { cls := .type "dict", data := .dict #[] }).get? e = some { cls := .ref C, data := .fields fs } := Heap.get?_push_of_some _ he
      refine next hp2 tk2 hp.objs.size (fun b o hb ho => ?_) (Nat.le_refl _) far.symm ((same.2 e far).trans (Heap.get?_update_self _ he2 rfl)) hns
      have hlt : b ≠ hp.objs.size := Nat.ne_of_lt (Heap.lt_size ho)
      exact (same.2 b hlt).trans ((Heap.get?_update_ne _ _ _ _ hb).trans (Heap.get?_push_of_some _ ho))
end
end IeX
end PySem
namespace L2
open PySem PySem.Spec PyProof.Rows
/-- what the written part says of an own class over IndexError -/
structure OexI (K : PySem.W.Frag) (C : Addr) : Prop where
  cls : ∃ nm q N bs sn sub ab col dd k0 k1 k2 k3 k5,
    K.lookup C = some (excClassObj nm q C N bs PySem.IeX.ieTail true sn sub ab col dd k0 k1 k2 k3 k5 "IndexError.__new__")
  sa : PySem.W.findIn K (.ref C) "__setattr__" = some (some (.builtin "object.__setattr__"))
  exC : PySem.W.subIn K (.ref C) (.type "BaseException") = some true
  tyC : PySem.W.typeIn K (.ref C) = some (.type "type")
  kC : PySem.W.keepIn K (.ref C) = true
section
variable {X : Cx} {pins : List (Addr × Obj)} {σ : St} {H : Hp} {s : Shared} {a C : Addr} {f : Str} {y : V} {u : Value}
/-- self.f = y of a new error -/
theorem ie_first {Q : Unit → Shared → Prop} {E : Value → Shared → Prop} {A : Around} (T : OexI X.K C) (I : Inv X pins σ H s)
    (e : H a = some (exo a C none)) (no : PySem.W.findIn X.K (.ref C) f = some none) (ry : RelV y u)
    (next : ∀ dx s2, H dx = none → dx ≠ a → Inv X pins σ (upd (upd H dx (exd dx [(f, y)])) a (exo a C (some dx))) s2 → Q () s2) :
    wpAny (model X.prog X.w) A (setAttr (.ref a) f u) Q E s := by
  obtain ⟨nm, q, N, bs, sn, sub, ab, col, dd, k0, k1, k2, k3, k5, hC⟩ := T.cls
  have cd : PySem.W.clsIn X.K C = some ⟨nm, bs, .ref C :: PySem.IeX.ieTail, N, q, true, sn, sub, ab, col, false⟩ := by
    unfold PySem.W.clsIn
    rw [hC] <;> rfl
  obtain ⟨t1, ho⟩ := exo_at I.hok e
  obtain ⟨hp, g, d, t, os⟩ := s
  refine PySem.W.set_plain (od := none) I.kIn ⟨ho, rfl, rfl, trivial⟩ T.sa ?_
  refine PySem.IeX.ie_osa I.kIn ho cd rfl rfl no fun hp2 tk2 dx keep dn dne hx hns => ?_
  have fresh : H dx = none := I.hok.fresh dn
  have ndx : ∀ {b : Addr} {o : Obj}, hp.get? b = some o → b ≠ dx := fun z => Nat.ne_of_lt (Nat.lt_of_lt_of_le (Heap.lt_size z) dn)
  have nea : ∀ {b : Addr}, H b = none → b ≠ a := fun z1 z2 => by
    subst z2
    rw [e] at z1
    cases z1
  have old : ∀ {b : Addr} {v : HO}, H b = some v → exo a C none ≠ v → upd (upd H dx (exd dx [(f, y)])) a (exo a C (some dx)) b = some v := fun z1 z2 => by
    rw [upd_ne (at_ne e z1 z2), upd_ne (ne_of_none z1 fresh)]
    exact z1
  refine next dx _ fresh dne (I.un (t' := tk2) ⟨fun b o z n _ _ => keep b o (nea n) z, fun b o z n _ _ => ⟨o.slots, keep b o (nea n) z⟩,
    fun b o z n _ => by rw [upd_ne (nea n), upd_ne (ndx z)]; exact n, fun b o z _ => ?_, fun b xs z => old z exo_tup, fun b o v z => old z exo_frz,
    fun b ps z => ⟨#[], by rw [old z exo_tbl]; simp⟩⟩ fun b o z => ?_)
  · by_cases hb : b = a
    · subst hb
      exact ⟨_, hx⟩
    · exact ⟨o, keep b o hb z⟩
  · by_cases hb : b = a
    · subst hb
      rw [upd_same] at z
      cases z
      exact exo_ok hx
    · rw [upd_ne hb] at z
      by_cases hd : b = dx
      · subst hd
        rw [upd_same] at z
        cases z
        exact exd_ok hns (relO_put (fs := []) ry fun _ => True.intro)
      · rw [upd_ne hd] at z
        refine (I.hok b o z).stay (fun c v hc k => keep c v ?_ k) (fun c hc => old hc exo_own) fun c xs hc => old hc exo_tup
        rcases hc with rfl | hc
        · exact hb
        · exact at_ne e hc exo_own
/-- self.f = e in such a class's __init__ -/
def tOstI (K : PySem.W.Frag) (f : Str) (to te : TE) : TS := fun D σ H => te σ H fun y H1 => to σ H1 fun x H2 =>
  ∃ a C : Addr, x = .ref a ∧ OexI K C ∧ PySem.W.findIn K (.ref C) f = some none ∧ H2 a = some (exo a C none) ∧
    ∀ dx, H2 dx = none → dx ≠ a → D.nx σ (upd (upd H2 dx (exd dx [(f, y)])) a (exo a C (some dx)))
theorem ps_ostI {o e : Expr} {to te : TE} {f : Str} {p1 pos : Pos} (ho : PE X o to) (he : PE X e te)
    (hs : swapsWith e (some (.Attribute o f p1)) pos.line X.env = pure false := by rfl) : PS X (.Assign [.Attribute o f p1] e pos) (tOstI X.K f to te) := ⟨fun pins s σ H D I h => by
  refine plainObj_wpAny_Assign_Attribute (thn (he.run pins s σ H _ I h) fun v s1 ⟨y, H1, I1, ry, hy⟩ => ?_) hs
  refine thn (ho.run pins s1 σ H1 _ I1 hy) fun w s2 ⟨x, H2, I2, rx, a, C, ex, T, no, ea, go⟩ => ?_
  subst ex
  obtain rfl : w = Value.ref a := rx
  exact ie_first T I2 ea no ry fun dx s3 n1 n2 J => ⟨σ, _, J, go dx n1 n2⟩⟩
end
end L2
namespace DD
open PySem PySem.Spec PyProof.Rows L2
def spIE (K : PySem.W.Frag) (f : Str) : Sp := fun vs H Q _ => ∃ (a C : Addr) (y : V), vs = [.ref a, y] ∧ OexI K C ∧ PySem.W.findIn K (.ref C) f = some none ∧ H a = some (exo a C none) ∧
  ∀ dx, H dx = none → dx ≠ a → Q .non (upd (upd H dx (exd dx [(f, y)])) a (exo a C (some dx)))
section
variable {P : Program} {w : World} {K : PySem.W.Frag} {mg : Str → Option Value} {base : Heap}
theorem ok_exIE {qual : Str} {st : Stmt} {fI : Addr} {fd : FuncData} {f : Str} {N : List Str} (F : Fun K "__init__" qual st fI fd) (S : FnScope N N (defScope st)) (hN : N.length = 2)
    (hb : ∀ (cdv : Value) (A : Around) (outer : List Env) (s : Shared) (H : Hp) (E : XK), PSs (cxOf CX0 P w K mg base N qual (defScope st) fI cdv A outer s H E).nox (defBody st) (tOstI K f (tVar 0) (tVar 1))) :
    FnOk P w K mg base CX0 1 fI fd N (spIE K f) := by
  refine F.ok S (fun vs H Q E h => ?_) fun cdv A outer s H vs Q E hr h => ⟨_, hb cdv A outer s H E, ?_⟩
  · obtain ⟨a, C, y, rfl, _⟩ := h
    rw [hN]
    rfl
  · obtain ⟨a, C, y, rfl, T, no, ea, q⟩ := h
    match N, hN with
    | [_, _], _ => exact ⟨y, rfl, V.ref a, rfl, a, C, rfl, T, no, ea, fun dx h1 h2 => q dx h1 h2⟩
end
/-- an error's class over IndexError, as raise wants it -/
def ExRI (P : Program) (w : World) (K : PySem.W.Frag) (mg : Str → Option Value) (base : Heap) (C : Addr) (f : Str) : Prop :=
  ∃ (fI : Addr) (fd : FuncData) (ps : List Str), OexI K C ∧ PySem.W.findIn K (.ref C) f = some none ∧ PySem.W.findIn K (.ref C) "__init__" = some (some (.ref fI)) ∧
    PySem.W.typeIn K (.ref fI) = some (.type "function") ∧ FnOk P w K mg base CX0 1 fI fd ps (spIE K f) ∧ Binds K fd ps []
end DD
set_option Elab.async false
set_option linter.all false
set_option maxRecDepth 100000
set_option maxHeartbeats 2000000
namespace DD
open PySem PySem.Spec PyProof.Rows L2
/-- e.f of an error -/
def tXv (K : PySem.W.Frag) (f : Str) (te : TE) : TE := fun σ H Q => te σ H fun x H1 => ∃ (a C dd : Addr) (fs : List (Str × V)) (v : V), x = .ref a ∧ H1 a = some (exo a C (some dd)) ∧ H1 dd = some (exd dd fs) ∧ fs.lookup f = some v ∧
  XfC K C ∧ PySem.W.findIn K (.ref C) f = some none ∧ Q v H1
theorem pe_xv {X : Cx} {e : Expr} {te : TE} {pos : Pos} {n : Str} (he : PE X e te) (hb : attributeBase e n X.env (eval e X.env) = eval e X.env := by rfl) :
    PE X (.Attribute e n pos) (tXv X.K n te) := by
  refine ⟨fun pins s σ H Q I h => ?_⟩
  refine attr_of hb (thn (he.run pins s σ H _ I h) fun u s1 hh => ?_)
  obtain ⟨x, H1, I1, rx, a, C, dd, fs, v, ex, ea, ed, l, T, hno, q⟩ := hh
  subst ex
  obtain rfl : u = Value.ref a := rx
  obtain ⟨t1, ha⟩ := exo_at I1.hok ea
  obtain ⟨mA, hns, hr⟩ := exd_at I1.hok ed
  obtain ⟨od, ho, hl⟩ := lookIn_ns hns
  obtain ⟨u, hu, ru⟩ := RelO.some_of (v := v) (o := mA n) (by rw [← l]; exact hr n)
  have J : PySem.W.InstAt s1.heap a _ C (some od) := ⟨ha, rfl, rfl, ho⟩
  exact HandSPX.exc_get I1.kIn J T.ga T.gg T.exC (PySem.W.findObj_own T.hdC hno rfl (by rw [hl, hu])) (handed_of ru) ⟨v, H1, I1.tok _, ru, q⟩
/-- isinstance(e, c) -/
def rIsXv (K : PySem.W.Frag) : List V → Hp → VK → Prop := fun xs H Q => ∃ (a D dd : Addr) (fs : List (Str × V)) (c : V) (cv : Value) (b : Bool), xs = [.ref a, c] ∧ H a = some (exo a D (some dd)) ∧ H dd = some (exd dd fs) ∧ ExcC K D ∧
  (∀ u, RelV c u → u = cv) ∧ PySem.W.kitOne K (.ref D) cv = some b ∧ Q (.bl b) H
/-- .. of one with no dict -/
def rIsXo (K : PySem.W.Frag) : List V → Hp → VK → Prop := fun xs H Q => ∃ (a D : Addr) (c : V) (cv : Value) (b : Bool), xs = [.ref a, c] ∧ H a = some (ExO (.ref D) a) ∧ ExcC K D ∧
  (∀ u, RelV c u → u = cv) ∧ PySem.W.kitOne K (.ref D) cv = some b ∧ Q (.bl b) H
theorem call_isXv {X : Cx} : CallR X (.builtin "isinstance") (fun xs H Q => rIsXv X.K xs H Q ∨ rIsXo X.K xs H Q) := by
  intro pins s σ H xs us Q I r h
  rcases h with ⟨a, D, dd, fs, c, cv, b, rfl, ea, ed, C, hcv, e, q⟩ | ⟨a, D, c, cv, b, rfl, ea, C, hcv, e, q⟩
  · cases r with
    | cons rx rr =>
      cases rr with
      | cons rt rr =>
        cases rr
        cases rx
        have ec := hcv _ rt
        subst ec
        obtain ⟨t1, ha⟩ := exo_at I.hok ea
        obtain ⟨mA, hns, hr⟩ := exd_at I.hok ed
        obtain ⟨od, ho, hl⟩ := lookIn_ns hns
        have J : PySem.W.InstAt s.heap a _ D (some od) := ⟨ha, rfl, rfl, ho⟩
        have hcl : (PySem.W.clsIn X.K D).isSome = true := by
          obtain ⟨cd, hc, _⟩ := PySem.W.any_some C.hd
          rw [hc]
          rfl
        exact PySem.W.kia_one (PySem.W.kitx_exc hcl C.hg C.hk C.hs C.ha C.hn C.ht C.hm) I.kIn J e (fun z => nomatch z) fun tk => ⟨.bl b, H, I.kept (t' := tk) fun _ _ z => z, rfl, q⟩
  · cases r with
    | cons rx rr =>
      cases rr with
      | cons rt rr =>
        cases rr
        cases rx
        have ec := hcv _ rt
        subst ec
        obtain ⟨⟨oe, vs, ho, hz, hd, _⟩, _, _⟩ := I.hok a _ ea
        have J : PySem.W.InstAt s.heap a oe D none := by
          obtain ⟨oc, od, oda, osl⟩ := oe
          obtain ⟨h1, h2⟩ := hz
          dsimp only at h1 h2 hd
          subst h1 h2 hd
          exact ⟨ho, rfl, rfl, trivial⟩
        exact PySem.W.kia_one (PySem.W.handS_kitx_exc C.hg C.hk C.hs C.hd C.ha C.hn C.ht C.hm) I.kIn J e (fun z => nomatch z) fun tk => ⟨.bl b, H, I.kept (t' := tk) fun _ _ z => z, rfl, q⟩
/-- C(e): a new error that keeps e -/
def tMkX (C : Addr) (f : Str) (te : TE) : TE := fun σ H Q => te σ H fun y H1 => ∀ a dx, H1 a = none → H1 dx = none → dx ≠ a → Q (.ref a) (upd (upd H1 dx (exd dx [(f, y)])) a (exo a C (some dx)))
theorem upd_twice {H : Hp} {a dx : Addr} {o1 o2 o3 : HO} (h : dx ≠ a) : upd (upd (upd H a o1) dx o2) a o3 = upd (upd H dx o2) a o3 := by
  funext b
  by_cases hb : b = a
  · rw [hb, upd_same, upd_same]
  · rw [upd_ne hb, upd_ne hb]
    by_cases hd : b = dx
    · rw [hd, upd_same, upd_same]
    · rw [upd_ne hd, upd_ne hd, upd_ne hb]
section
variable {X : Cx} {x f : Str} {C fI : Addr} {fd : FuncData} {ps : List Str} {p pos : Pos} {e : Expr} {te : TE}
theorem pe_mkX (T : OexC X.K C) (no : PySem.W.findIn X.K (.ref C) f = some none) (iC : PySem.W.findIn X.K (.ref C) "__init__" = some (some (.ref fI))) (tI : PySem.W.typeIn X.K (.ref fI) = some (.type "function"))
    (F1 : FnOk X.prog X.w X.K X.mg X.base CX0 1 fI fd ps (spI X.K f)) (hb : Binds X.K fd ps []) (hr : Room 2 X.A) (hg : Gl X x) (hm : X.mg x = some (.ref C)) (ha : PE X e te)
    (hdb : (x == ("__debug__" : Str)) = false := by decide) (he : starEach (e :: []) X.env = (false, eval e X.env) :: starEach [] X.env := by rfl) (hpl : (backTo pos (starEach [] X.env)).any (·.1) = false := by rfl) :
    PE X (.Call (.Name x p) [e] [] pos) (tMkX C f te) := by
  have hA : PA X [e] (tCons te tNil) := pa_cons (hs := he) ha pa_nil
  refine ⟨fun pins s σ H Q I h => ?_⟩
  obtain ⟨nm, q, N, bs, bm, sn, sub, ab, col, dd, k0, k1, k2, k3, k5, hC, hbm⟩ := T.cls
  refine wpAny_Call_Name_kw (ld_glob I hg hm ?_ hdb)
  have h' : tCons te tNil σ H (fun vs H1 => match vs with
    | [y] => ∀ a dx, H1 a = none → H1 dx = none → dx ≠ a → Q (.ref a) (upd (upd H1 dx (exd dx [(f, y)])) a (exo a C (some dx)))
    | _ => False) := h
  refine PySem.W.callWith_K (h₀ := X.base) I.ok.mod.kin T.kC (thn (hA.run pos pins s σ H _ I h') fun us s1 ⟨vs, H1, I1, r1, hz⟩ => ⟨I1.kIn, ?_⟩) he hpl
  obtain ⟨y, rfl⟩ : ∃ y, vs = [y] := by
    match vs, hz with
    | [y], _ => exact ⟨y, rfl⟩
  dsimp only at hz
  show wpAny _ _ (call (.ref C) us) _ _ _
  obtain ⟨hp, g, dr, tk, os⟩ := s1
  have hsz : hp.objs.size ≤ hp.objs.size + 1 := Nat.le_succ _
  have hn : H1 (hp.objs.size + 1) = none := I1.hok.fresh hsz
  have kk : ∀ b o, hp.get? b = some o → ((hp.push (PySem.W.kdv_tup us)).push (PySem.HandSPX.excO C hp.objs.size)).get? b = some o := fun b o e => Heap.get?_push_of_some _ (Heap.get?_push_of_some _ e)
  have hget : ((hp.push (PySem.W.kdv_tup us)).push (PySem.HandSPX.excO C hp.objs.size)).get? (hp.objs.size + 1) = some (PySem.HandSPX.excO C hp.objs.size) := by heap_get
  have I2 : Inv X pins σ (upd H1 (hp.objs.size + 1) (exo (hp.objs.size + 1) C none)) ⟨(hp.push (PySem.W.kdv_tup us)).push (PySem.HandSPX.excO C hp.objs.size), g, dr, tk, os⟩ :=
    I1.laid (t' := tk) (a := hp.objs.size + 1) (o := exo (hp.objs.size + 1) C none) (h' := (hp.push (PySem.W.kdv_tup us)).push (PySem.HandSPX.excO C hp.objs.size)) kk hsz (exo_ok hget)
  have r2 : Vals (V.ref (hp.objs.size + 1) :: [y]) (Value.ref (hp.objs.size + 1) :: us) := .cons rfl r1
  have hus : us.length ≤ sizeLine := by
    rw [← Paired.length r1, sizeLine_eq]
    simp
  have hq : spI X.K f (V.ref (hp.objs.size + 1) :: [y]) (upd H1 (hp.objs.size + 1) (exo (hp.objs.size + 1) C none)) (fun v H2 => v = .non ∧ Q (.ref (hp.objs.size + 1)) H2) (fun _ _ _ => False) := by
    refine ⟨_, C, y, rfl, T, no, upd_same, fun dx n1 n2 => ⟨rfl, ?_⟩⟩
    rw [upd_ne n2] at n1
    rw [upd_twice n2]
    exact hz _ dx hn n1 n2
  have hl : (Value.ref (hp.objs.size + 1) :: us).length = ps.length := by
    have e := r2.length
    rw [F1.len _ _ _ _ hq] at e
    exact e.symm
  have bind := hb ⟨(hp.push (PySem.W.kdv_tup us)).push (PySem.HandSPX.excO C hp.objs.size), g, dr, tk, os⟩ (Value.ref (hp.objs.size + 1) :: us) I2.kIn (by rw [List.append_nil]; exact hl)
  rw [List.append_nil] at bind
  refine wpAny_call (PySem.HandSPX.call_own F.excBase_ValueError (fun Y => PySem.HandSPX.refsVE_contains Y bm hbm) (I1.kIn _ _ hC) (PySem.W.looks_findIn I1.kIn iC) (fun self => PySem.W.bind_fn I1.kIn self tI) hus
    (codeAny_mono (F1.run _ X.stack _ _ ⟨Value.ref (hp.objs.size + 1) :: us, []⟩ (Value.ref (hp.objs.size + 1) :: us) _ _ (fun _ _ _ => False) (hr.make C us []) (I2.env0.make C us []) bind r2 hq) fun r s' hq' => ?_))
  rcases r with er | fl
  · exact False.elim hq'
  · cases fl with
    | ret u =>
      obtain ⟨v, H', I3, rv, ev, q3⟩ := I2.after hq'
      subst ev
      exact ⟨rv, ⟨V.ref (hp.objs.size + 1), H', I3, rfl, q3⟩⟩
    | next => exact False.elim hq'
    | brk => exact False.elim hq'
    | cont => exact False.elim hq'
theorem pe_mkI (T : OexI X.K C) (no : PySem.W.findIn X.K (.ref C) f = some none) (iC : PySem.W.findIn X.K (.ref C) "__init__" = some (some (.ref fI))) (tI : PySem.W.typeIn X.K (.ref fI) = some (.type "function"))
    (F1 : FnOk X.prog X.w X.K X.mg X.base CX0 1 fI fd ps (spIE X.K f)) (hb : Binds X.K fd ps []) (hr : Room 2 X.A) (hg : Gl X x) (hm : X.mg x = some (.ref C)) (ha : PE X e te)
    (hdb : (x == ("__debug__" : Str)) = false := by decide) (he : starEach (e :: []) X.env = (false, eval e X.env) :: starEach [] X.env := by rfl) (hpl : (backTo pos (starEach [] X.env)).any (·.1) = false := by rfl) :
    PE X (.Call (.Name x p) [e] [] pos) (tMkX C f te) := by
  have hA : PA X [e] (tCons te tNil) := pa_cons (hs := he) ha pa_nil
  refine ⟨fun pins s σ H Q I h => ?_⟩
  obtain ⟨nm, q, N, bs, sn, sub, ab, col, dd, k0, k1, k2, k3, k5, hC⟩ := T.cls
  refine wpAny_Call_Name_kw (ld_glob I hg hm ?_ hdb)
  have h' : tCons te tNil σ H (fun vs H1 => match vs with
    | [y] => ∀ a dx, H1 a = none → H1 dx = none → dx ≠ a → Q (.ref a) (upd (upd H1 dx (exd dx [(f, y)])) a (exo a C (some dx)))
    | _ => False) := h
  refine PySem.W.callWith_K (h₀ := X.base) I.ok.mod.kin T.kC (thn (hA.run pos pins s σ H _ I h') fun us s1 ⟨vs, H1, I1, r1, hz⟩ => ⟨I1.kIn, ?_⟩) he hpl
  obtain ⟨y, rfl⟩ : ∃ y, vs = [y] := by
    match vs, hz with
    | [y], _ => exact ⟨y, rfl⟩
  dsimp only at hz
  show wpAny _ _ (call (.ref C) us) _ _ _
  obtain ⟨hp, g, dr, tk, os⟩ := s1
  have hsz : hp.objs.size ≤ hp.objs.size + 1 := Nat.le_succ _
  have hn : H1 (hp.objs.size + 1) = none := I1.hok.fresh hsz
  have kk : ∀ b o, hp.get? b = some o → ((hp.push (PySem.W.kdv_tup us)).push (PySem.HandSPX.excO C hp.objs.size)).get? b = some o := fun b o e => Heap.get?_push_of_some _ (Heap.get?_push_of_some _ e)
  have hget : ((hp.push (PySem.W.kdv_tup us)).push (PySem.HandSPX.excO C hp.objs.size)).get? (hp.objs.size + 1) = some (PySem.HandSPX.excO C hp.objs.size) := by heap_get
  have I2 : Inv X pins σ (upd H1 (hp.objs.size + 1) (exo (hp.objs.size + 1) C none)) ⟨(hp.push (PySem.W.kdv_tup us)).push (PySem.HandSPX.excO C hp.objs.size), g, dr, tk, os⟩ :=
    I1.laid (t' := tk) (a := hp.objs.size + 1) (o := exo (hp.objs.size + 1) C none) (h' := (hp.push (PySem.W.kdv_tup us)).push (PySem.HandSPX.excO C hp.objs.size)) kk hsz (exo_ok hget)
  have r2 : Vals (V.ref (hp.objs.size + 1) :: [y]) (Value.ref (hp.objs.size + 1) :: us) := .cons rfl r1
  have hus : us.length ≤ sizeLine := by
    rw [← Paired.length r1, sizeLine_eq]
    simp
  have hq : spIE X.K f (V.ref (hp.objs.size + 1) :: [y]) (upd H1 (hp.objs.size + 1) (exo (hp.objs.size + 1) C none)) (fun v H2 => v = .non ∧ Q (.ref (hp.objs.size + 1)) H2) (fun _ _ _ => False) := by
    refine ⟨_, C, y, rfl, T, no, upd_same, fun dx n1 n2 => ⟨rfl, ?_⟩⟩
    rw [upd_ne n2] at n1
    rw [upd_twice n2]
    exact hz _ dx hn n1 n2
  have hl : (Value.ref (hp.objs.size + 1) :: us).length = ps.length := by
    have e := r2.length
    rw [F1.len _ _ _ _ hq] at e
    exact e.symm
  have bind := hb ⟨(hp.push (PySem.W.kdv_tup us)).push (PySem.HandSPX.excO C hp.objs.size), g, dr, tk, os⟩ (Value.ref (hp.objs.size + 1) :: us) I2.kIn (by rw [List.append_nil]; exact hl)
  rw [List.append_nil] at bind
  refine wpAny_call (PySem.HandSPX.call_own F.excBase_IndexError (fun _ => rfl) (I1.kIn _ _ hC) (PySem.W.looks_findIn I1.kIn iC) (fun self => PySem.W.bind_fn I1.kIn self tI) hus
    (codeAny_mono (F1.run _ X.stack _ _ ⟨Value.ref (hp.objs.size + 1) :: us, []⟩ (Value.ref (hp.objs.size + 1) :: us) _ _ (fun _ _ _ => False) (hr.make C us []) (I2.env0.make C us []) bind r2 hq) fun r s' hq' => ?_))
  rcases r with er | fl
  · exact False.elim hq'
  · cases fl with
    | ret u =>
      obtain ⟨v, H', I3, rv, ev, q3⟩ := I2.after hq'
      subst ev
      exact ⟨rv, ⟨V.ref (hp.objs.size + 1), H', I3, rfl, q3⟩⟩
    | next => exact False.elim hq'
    | brk => exact False.elim hq'
    | cont => exact False.elim hq'
/-- C(), an own error class without own __init__ -/
theorem pe_exc0 {C : Addr} {bmB : List Value} {B newId initId : String} {x : Str} {p pos : Pos} (F : ExcBaseFacts B newId initId bmB) (q : PySem.W.excIn X.K C bmB newId = true) (gC : X.mg x = some (.ref C)) (kC : PySem.W.keepIn X.K (.ref C) = true) (hg : Gl X x)
    (hdb : (x == ("__debug__" : Str)) = false := by decide) :
    PE X (.Call (.Name x p) [] [] pos) (fun σ H Q => ∀ a, H a = none → Q (.ref a) (upd H a (ExO (.ref C) a))) := by
  refine ⟨fun pins s σ H Q I h => ?_⟩
  refine wpAny_Call_Name_kw (ld_glob I hg gC ?_ hdb)
  refine PySem.W.callWith_K0 I.kIn kC ?_
  show wpAny _ _ (call (.ref C) []) _ _ _
  obtain ⟨bm, N, nm, qn, bs, hdct, sn, sub, ab, col, dd, k0, k1, k2, k3, k5, mN, hC, hN, hni, T⟩ := exc_obj I.kIn q
  refine wpAny_call_exc_subT F T hC hN hni (fun h' a hm => ?_) (by show 0 ≤ sizeLine; rw [sizeLine_eq]; omega)
  have hn : H a = none := I.hok.gone hm.new
  obtain ⟨t, ht, _, _⟩ := hm.there
  exact ⟨.ref a, upd H a (ExO (.ref C) a), I.laidN hm.keeps hm.new hn (exO_ok ht ⟨rfl, rfl⟩ rfl rfl rfl (show 4 < 6 by decide)), rfl, h a hn⟩
end
end DD
set_option Elab.async false
set_option linter.all false
set_option maxRecDepth 100000
set_option maxHeartbeats 2000000
namespace DL
open PySem PySem.Spec PyProof.Rows L2 DD
section
variable {X : Cx} {x f : Str} {C : Addr} {p pos : Pos} {e : Expr} {te : TE}
theorem pe_mkXR (R : ExR X.prog X.w X.K X.mg X.base C f) (hr : Room 2 X.A) (hg : Gl X x) (hm : X.mg x = some (.ref C)) (ha : PE X e te)
    (hdb : (x == ("__debug__" : Str)) = false := by decide) (he : starEach (e :: []) X.env = (false, eval e X.env) :: starEach [] X.env := by rfl) (hpl : (backTo pos (starEach [] X.env)).any (·.1) = false := by rfl) :
    PE X (.Call (.Name x p) [e] [] pos) (tMkX C f te) := by
  obtain ⟨fI, fd, ps, T, no, iC, tI, F, hb⟩ := R
  exact pe_mkX T no iC tI F hb hr hg hm ha hdb he hpl
theorem pe_mkIR (R : ExRI X.prog X.w X.K X.mg X.base C f) (hr : Room 2 X.A) (hg : Gl X x) (hm : X.mg x = some (.ref C)) (ha : PE X e te)
    (hdb : (x == ("__debug__" : Str)) = false := by decide) (he : starEach (e :: []) X.env = (false, eval e X.env) :: starEach [] X.env := by rfl) (hpl : (backTo pos (starEach [] X.env)).any (·.1) = false := by rfl) :
    PE X (.Call (.Name x p) [e] [] pos) (tMkX C f te) := by
  obtain ⟨fI, fd, ps, T, no, iC, tI, F, hb⟩ := R
  exact pe_mkI T no iC tI F hb hr hg hm ha hdb he hpl
end
/-- v: an error of class C that keeps y at f -/
def ErrA (H : Hp) (y v : V) (c : Addr × Str) : Prop := ∃ a dx, v = .ref a ∧ H a = some (exo a c.1 (some dx)) ∧ H dx = some (exd dx [(c.2, y)])
def Errs (H : Hp) (y : V) : List (Addr × Str) → List V → Prop
  | [], [] => True
  | c :: cs, v :: vs => ErrA H y v c ∧ Errs H y cs vs
  | _, _ => False
theorem ErrA.mono {H H' : Hp} {y v : V} {c : Addr × Str} (s : Same H H') (h : ErrA H y v c) : ErrA H' y v c := by
  obtain ⟨a, dx, e, h1, h2⟩ := h
  exact ⟨a, dx, e, s _ _ h1, s _ _ h2⟩
theorem Errs.mono {H H' : Hp} {y : V} (s : Same H H') : ∀ {cs : List (Addr × Str)} {vs : List V}, Errs H y cs vs → Errs H' y cs vs
  | [], [], _ => trivial
  | _ :: _, _ :: _, h => ⟨h.1.mono s, Errs.mono s h.2⟩
  | [], _ :: _, h => h.elim
  | _ :: _, [], h => h.elim
theorem Errs.len {H : Hp} {y : V} : ∀ {cs : List (Addr × Str)} {vs : List V}, Errs H y cs vs → vs.length = cs.length
  | [], [], _ => rfl
  | _ :: _, _ :: _, h => by rw [List.length_cons, List.length_cons, Errs.len h.2]
  | [], _ :: _, h => h.elim
  | _ :: _, [], h => h.elim
theorem Errs.app {H : Hp} {y : V} : ∀ {cs cs' : List (Addr × Str)} {vs vs' : List V}, Errs H y cs vs → Errs H y cs' vs' → Errs H y (cs ++ cs') (vs ++ vs')
  | [], _, [], _, _, h => h
  | _ :: _, _, _ :: _, _, h, h' => ⟨h.1, Errs.app h.2 h'⟩
  | [], _, _ :: _, _, h, _ => h.elim
  | _ :: _, _, [], _, h, _ => h.elim
theorem Errs.get {H : Hp} {y : V} : ∀ {cs : List (Addr × Str)} {vs : List V} {i : Nat} {v : V}, Errs H y cs vs → vs[i]? = some v → ∃ c, cs[i]? = some c ∧ ErrA H y v c
  | c :: cs, _ :: _, 0, v, h, e => by
    simp at e
    subst e
    exact ⟨c, rfl, h.1⟩
  | _ :: _, _ :: _, i + 1, v, h, e => by
    obtain ⟨c, h1, h2⟩ := Errs.get (i := i) h.2 (by simpa using e)
    exact ⟨c, by simpa using h1, h2⟩
  | [], [], i, v, h, e => by simp at e
  | [], _ :: _, _, _, h, _ => h.elim
  | _ :: _, [], _, _, h, _ => h.elim
/-- C1(y), C2(y), .. -/
def argsX (j : Nat) : List (Addr × Str) → TA
  | [] => tNil
  | c :: cs => tCons (tMkX c.1 c.2 (tVar j)) (argsX j cs)
theorem argsX_ok {j : Nat} {y : V} {σ : L2.St} (hy : σ[j]? = some (some y)) : ∀ {cs : List (Addr × Str)} {H : Hp} {Q : List V → Hp → Prop}, (∀ vs H', Same H H' → Errs H' y cs vs → Q vs H') → argsX j cs σ H Q
  | [], H, Q, h => h [] H (Same.refl H) trivial
  | c :: cs, H, Q, h => ⟨y, hy, fun a dx na nd ne => argsX_ok hy fun vs H' s e => by
    have nd' : upd H dx (exd dx [(c.2, y)]) a = none := by rw [upd_ne (Ne.symm ne)]; exact na
    refine h _ _ (((smNew nd).trans (smNew nd')).trans s) ⟨⟨a, dx, rfl, s _ _ upd_same, s _ _ ?_⟩, e⟩
    rw [upd_ne ne, upd_same]⟩
/-- all errors that keep y -/
def spMade (cs : List (Addr × Str)) : Sp := fun vs H Q _ => ∃ y, vs = [y] ∧ ∀ p ws H', Same H H' → H p = none → H' p = some (.lst ws) → Errs H' y cs ws → Q (.ref p) H'
theorem none_same {H H' : Hp} {p : Addr} (s : Same H H') (h : H' p = none) : H p = none := by
  cases e : H p with
  | none => rfl
  | some o => rw [s _ _ e] at h; cases h
theorem made_run {K : Fg} {cs cs' : List (Addr × Str)} {vs : List V} {H : Hp} {Q : VK} {E : XK} (z : cs.length + cs'.length ≤ 1000) (h : spMade (cs ++ cs') vs H Q E) :
    tSeq (tAsg (tLst (argsX 0 cs)) (gName 1)) (tRet (tOp (rAdd4 K) (tVar 1) (tLst (argsX 0 cs')))) { nx := fun _ H' => Q .non H', rt := Q } (start ["_law_value", "_law_found"] vs) H := by
  obtain ⟨y, rfl, h⟩ := h
  have hz : sizeLine = 16777216 := sizeLine_eq
  refine argsX_ok (j := 0) (y := y) rfl fun vs H1 s1 e1 => ⟨by have := e1.len; omega, fun p hp => ?_⟩
  refine ⟨.ref p, rfl, argsX_ok (j := 0) (y := y) rfl fun ws H2 s2 e2 => ⟨by have := e2.len; omega, fun q hq => ?_⟩⟩
  have l1 := e1.len
  have l2 := e2.len
  have ep : upd H2 q (.lst ws) p = some (.lst vs) := (smNew hq) _ _ (s2 _ _ upd_same)
  refine .inr (.inr (.inr ⟨p, q, vs, ws, rfl, rfl, ep, upd_same, by omega, fun r hr => ?_⟩))
  have s3 : Same H (upd (upd H2 q (.lst ws)) r (.lst (vs ++ ws))) := s1.trans ((smNew hp).trans (s2.trans ((smNew hq).trans (smNew hr))))
  refine h r (vs ++ ws) _ s3 (none_same (s1.trans ((smNew hp).trans (s2.trans (smNew hq)))) hr) upd_same ?_
  exact (e1.mono ((smNew hp).trans (s2.trans ((smNew hq).trans (smNew hr))))).app (e2.mono ((smNew hq).trans (smNew hr)))
theorem wipe1 {σ : L2.St} {i : Nat} {x : V} : wipe ((wipe σ [i]).set i (some x)) [i] = wipe σ [i] := by
  simp [wipe]
theorem lc_run {K : Fg} {a : Addr} {xs ys : List V} {H1 : Hp} {σ : L2.St} {i : Nat} {te : TE} {Q : VK} (hx : H1 a = some (.lst xs)) (hl : ys.length = xs.length) (hz : xs.length ≤ 1000)
    (he : ∀ (k : Nat) (x y : V) (H' : Hp), xs[k]? = some x → ys[k]? = some y → Same H1 H' → ∀ Q' : VK, Q' y H' → te ((wipe σ [i]).set i (some x)) H' Q') (hQ : ∀ D H', H1 D = none → Same H1 H' → H' D = some (.lst ys) → Q (.ref D) H') :
    ∀ D, H1 D = none → ∃ W : Nat → Nat → Hp → Prop, (∃ m, W 0 m (upd H1 D (.lst []))) ∧ ∀ k m H, W k m H → ((Itl K a).stop k H ∧ Q (.ref D) H) ∨ ((Itl K a).go k H ∧ ∃ Nx : Hp → Prop, (∀ H', Nx H' → ∃ m', m' < m ∧ W (k + 1) m' H') ∧
      ∀ x H', (Itl K a).yld k H x H' → gName i x (wipe σ [i]) H' fun σ2 H2 => wipe σ2 [i] = wipe σ [i] ∧ tYes σ2 H2 fun b H3 => if b = true then te σ2 H3 fun y H4 => ∃ acc, H4 D = some (.lst acc) ∧ acc.length < sizeLine ∧ Nx (upd H4 D (.lst (acc ++ [y]))) else Nx H3) := by
  intro D nD
  have hs : sizeLine = 16777216 := sizeLine_eq
  have smD : ∀ {H : Hp} {o : HO}, Same H1 H → Same H1 (upd H D o) := fun s b u e => by
    rw [upd_ne (ne_of_none e nD)]
    exact s b u e
  refine ⟨fun k m H => k ≤ xs.length ∧ m = xs.length - k ∧ Same H1 H ∧ H D = some (.lst (ys.take k)), ⟨_, Nat.zero_le _, rfl, smD (Same.refl H1), upd_same⟩, fun k m H ⟨w1, w2, w3, w4⟩ => ?_⟩
  have hL : SqL K H a xs := .inl (.inl (w3 _ _ hx))
  by_cases hk : k = xs.length
  · left
    refine ⟨⟨xs, hL, by omega⟩, hQ D H nD w3 ?_⟩
    rw [w4, List.take_of_length_le (by omega)]
  · right
    have hk1 : k < xs.length := by omega
    have hk2 : k < ys.length := by omega
    refine ⟨⟨xs, xs[k], hL, List.getElem?_eq_getElem hk1⟩, fun H' => Same H1 H' ∧ H' D = some (.lst (ys.take (k + 1))), fun H' h => ⟨xs.length - (k + 1), by omega, by omega, rfl, h.1, h.2⟩, fun x H' hy => ?_⟩
    obtain ⟨rfl, hy⟩ := hy
    refine ⟨wipe1, ?_⟩
    unfold tYes
    simp only [if_true]
    refine he k x ys[k] _ (hy xs hL) (List.getElem?_eq_getElem hk2) w3 _ ⟨_, w4, by rw [List.length_take]; omega, smD w3, ?_⟩
    rw [upd_same, List.take_add_one, List.getElem?_eq_getElem hk2]
    rfl
/-- what errors keep, in a list -/
def spKept (K : Fg) (cs : List (Addr × Str)) : Sp := fun vs H Q _ => ∃ p y ws, vs = [.ref p] ∧ H p = some (.lst ws) ∧ Errs H y cs ws ∧ (∀ c ∈ cs, XfC K c.1 ∧ PySem.W.findIn K (.ref c.1) c.2 = some none) ∧
  ∀ q H', Same H H' → H q = none → H' q = some (.lst (List.replicate cs.length y)) → Q (.ref q) H'
theorem lc_errs {K : Fg} {a : Addr} {ws : List V} {y : V} {f : Str} {cs : List (Addr × Str)} {H1 : Hp} {σ : L2.St} {i : Nat} {Q : VK} (hi : i < σ.length) (hx : H1 a = some (.lst ws)) (e : Errs H1 y cs ws) (hz : cs.length ≤ 1000) (hc : ∀ c ∈ cs, c.2 = f ∧ XfC K c.1 ∧ PySem.W.findIn K (.ref c.1) c.2 = some none)
    (hQ : ∀ D H', H1 D = none → Same H1 H' → H' D = some (.lst (List.replicate cs.length y)) → Q (.ref D) H') :
    tLc (iSeq K (tC (.ref a))) (gName i) tYes (tXv K f (tVar i)) [i] σ H1 Q := by
  have l := e.len
  refine ⟨a, rfl, .inl ⟨⟨ws, .inl (.inl hx)⟩, lc_run hx (ys := List.replicate cs.length y) (by rw [List.length_replicate]; omega) (by omega) (fun k x y' H' h1 h2 s Q' hq => ?_) hQ⟩⟩
  obtain ⟨c, c1, b, dx, rfl, c2, c3⟩ := e.get h1
  obtain ⟨rfl, c5, c6⟩ := hc c (List.mem_of_getElem? c1)
  have ey : y' = y := by
    have := List.mem_of_getElem? h2
    exact List.eq_of_mem_replicate this
  subst ey
  have li : i < (wipe σ [i]).length := by simp [wipe]; exact hi
  refine ⟨_, List.getElem?_set_self li, b, c.1, dx, _, y', rfl, s _ _ c2, s _ _ c3, ?_, c5, c6, hq⟩
  simp [List.lookup]
theorem Errs.split {H : Hp} {y : V} : ∀ {cs cs' : List (Addr × Str)} {vs : List V}, Errs H y (cs ++ cs') vs → Errs H y cs (vs.take cs.length) ∧ Errs H y cs' (vs.drop cs.length)
  | [], _, _, h => ⟨by simp [Errs], by simpa using h⟩
  | _ :: cs, _, _ :: _, h => by
    obtain ⟨h1, h2⟩ := Errs.split (cs := cs) h.2
    exact ⟨⟨h.1, h1⟩, h2⟩
  | _ :: _, _, [], h => h.elim
theorem cut3 {ws : List V} (l : ws.length = 7) : cutV ws none (some 3) = ws.take 3 ∧ cutV ws (some 3) none = ws.drop 3 := by
  match ws, l with
  | [a, b, c, d, e, f, g], _ => exact ⟨rfl, rfl⟩
theorem kept_run {K : Fg} {cs cs' : List (Addr × Str)} {vs : List V} {H : Hp} {Q : VK} {E : XK} (z : cs.length = 3) (z' : cs'.length = 4) (f1 : ∀ c ∈ cs, c.2 = "word") (f2 : ∀ c ∈ cs', c.2 = "at") (h : spKept K (cs ++ cs') vs H Q E) :
    tRet (tOp (rAdd4 K) (tLc (iSeq K (tSl (rSl3 K) (tVar 0) tNoPart (tPart (tC (.int 3))))) (gName 1) tYes (tXv K "word" (tVar 1)) [1]) (tLc (iSeq K (tSl (rSl3 K) (tVar 0) (tPart (tC (.int 3))) tNoPart)) (gName 1) tYes (tXv K "at" (tVar 1)) [1]))
      { nx := fun _ H' => Q .non H', rt := Q } (start ["_law_errors", "_law_error"] vs) H := by
  obtain ⟨p, y, ws, rfl, hp, e, hc, h⟩ := h
  have hz : sizeLine = 16777216 := sizeLine_eq
  have l := e.len
  rw [List.length_append, z, z'] at l
  obtain ⟨k1, k2⟩ := cut3 l
  obtain ⟨e1, e2⟩ := e.split
  rw [z] at e1 e2
  refine ⟨.ref p, rfl, 3, rfl, .inr (.inl ⟨p, ws, rfl, .inl (.inl hp), fun a ha => ?_⟩)⟩
  show tLc (iSeq K (tC (.ref a))) (gName 1) tYes (tXv K "word" (tVar 1)) [1] (L2.start ["_law_errors", "_law_error"] [.ref p]) (upd H a (.lst (cutV ws none (some 3)))) (fun x H1 => tLc (iSeq K (tSl (rSl3 K) (tVar 0) (tPart (tC (.int 3))) tNoPart)) (gName 1) tYes (tXv K "at" (tVar 1)) [1] (L2.start ["_law_errors", "_law_error"] [.ref p]) H1 fun y H2 => rAdd4 K x y H2 Q)
  refine lc_errs (K := K) (a := a) (H1 := upd H a (.lst (cutV ws none (some 3)))) (cs := cs) (y := y) (ws := ws.take 3) (σ := L2.start ["_law_errors", "_law_error"] [.ref p]) (show 1 < 2 by decide) (by rw [upd_same, k1]) (e1.mono (smNew ha)) (by omega) (fun c hm => ⟨f1 c hm, hc c (List.mem_append_left _ hm)⟩) fun D H1 hD s1 hD1 => ?_
  have hp1 : H1 p = some (.lst ws) := s1 _ _ ((smNew ha) _ _ hp)
  refine ⟨.ref p, rfl, 3, rfl, .inr (.inl ⟨p, ws, rfl, .inl (.inl hp1), fun b hb => ?_⟩)⟩
  show tLc (iSeq K (tC (.ref b))) (gName 1) tYes (tXv K "at" (tVar 1)) [1] (L2.start ["_law_errors", "_law_error"] [.ref p]) (upd H1 b (.lst (cutV ws (some 3) none))) (fun y H2 => rAdd4 K (.ref D) y H2 Q)
  refine lc_errs (K := K) (a := b) (H1 := upd H1 b (.lst (cutV ws (some 3) none))) (cs := cs') (y := y) (ws := ws.drop 3) (σ := L2.start ["_law_errors", "_law_error"] [.ref p]) (show 1 < 2 by decide) (by rw [upd_same, k2]) (e2.mono ((smNew ha).trans (s1.trans (smNew hb)))) (by omega) (fun c hm => ⟨f2 c hm, hc c (List.mem_append_right _ hm)⟩) fun D2 H2 hD2 s2 hD3 => ?_
  have hD4 : H2 D = some (.lst (List.replicate cs.length y)) := s2 _ _ ((smNew hb) _ _ hD1)
  refine .inr (.inr (.inr ⟨D, D2, _, _, rfl, rfl, hD4, hD3, by rw [List.length_replicate, List.length_replicate]; omega, fun r hr => ?_⟩))
  have s3 : Same H H2 := (smNew ha).trans (s1.trans ((smNew hb).trans s2))
  refine h r _ (s3.trans (smNew hr)) (none_same s3 hr) ?_
  rw [upd_same, List.replicate_append_replicate, List.length_append]
/-- v: an error of class C -/
def ErrV (H : Hp) (v : V) (C : Addr) : Prop := (∃ a dd fs, v = .ref a ∧ H a = some (exo a C (some dd)) ∧ H dd = some (exd dd fs)) ∨ ∃ a, v = .ref a ∧ H a = some (ExO (.ref C) a)
theorem ErrV.mono {H H' : Hp} {v : V} {C : Addr} (s : Same H H') : ErrV H v C → ErrV H' v C
  | .inl ⟨a, dd, fs, e, h1, h2⟩ => .inl ⟨a, dd, fs, e, s _ _ h1, s _ _ h2⟩
  | .inr ⟨a, e, h⟩ => .inr ⟨a, e, s _ _ h⟩
theorem ErrA.v {H : Hp} {y v : V} {c : Addr × Str} (h : ErrA H y v c) : ErrV H v c.1 := by
  obtain ⟨a, dx, e, h1, h2⟩ := h
  exact .inl ⟨a, dx, _, e, h1, h2⟩
def rIsXX (K : Fg) : List V → Hp → VK → Prop := fun xs H Q => rIsXv K xs H Q ∨ rIsXo K xs H Q
/-- isinstance(e, D) -/
def tIsX (K : Fg) (j : Nat) (D : V) : TE := tCB (rIsXX K) (tCons (tVar j) (tCons (tC D) tNil))
theorem is_okV {K : Fg} {j : Nat} {C : Addr} {c : V} {cv : Value} {b : Bool} {v : V} {σ : L2.St} {H : Hp} {Q : VK} (hv : σ[j]? = some (some v)) (e : ErrV H v C) (X : ExcC K C) (hc : ∀ u, RelV c u → u = cv) (k : PySem.W.kitOne K (.ref C) cv = some b) (q : Q (.bl b) H) : tIsX K j c σ H Q := by
  refine ⟨v, hv, ?_⟩
  rcases e with ⟨a, dd, fs, rfl, h1, h2⟩ | ⟨a, rfl, h1⟩
  · exact .inl ⟨a, C, dd, fs, c, cv, b, rfl, h1, h2, X, hc, k, q⟩
  · exact .inr ⟨a, C, c, cv, b, rfl, h1, X, hc, k, q⟩
def Kits (K : Fg) (C : Addr) : List Addr → List Bool → Prop
  | [], [] => True
  | D :: Ds, b :: bs => PySem.W.kitOne K (.ref C) (.ref D) = some b ∧ Kits K C Ds bs
  | _, _ => False
theorem Kits.len {K : Fg} {C : Addr} : ∀ {Ds : List Addr} {bs : List Bool}, Kits K C Ds bs → bs.length = Ds.length
  | [], [], _ => rfl
  | _ :: _, _ :: _, h => by rw [List.length_cons, List.length_cons, Kits.len h.2]
  | [], _ :: _, h => h.elim
  | _ :: _, [], h => h.elim
theorem Kits.split {K : Fg} {C : Addr} : ∀ {Ds Ds' : List Addr} {bs : List Bool}, Kits K C (Ds ++ Ds') bs → Kits K C Ds (bs.take Ds.length) ∧ Kits K C Ds' (bs.drop Ds.length)
  | [], _, _, h => ⟨by simp [Kits], by simpa using h⟩
  | _ :: Ds, _, _ :: _, h => by
    obtain ⟨h1, h2⟩ := Kits.split (Ds := Ds) h.2
    exact ⟨⟨h.1, h1⟩, h2⟩
  | _ :: _, _, [], h => h.elim
def argsI (K : Fg) (j : Nat) : List Addr → TA
  | [] => tNil
  | D :: Ds => tCons (tIsX K j (.ref D)) (argsI K j Ds)
theorem argsI_ok {K : Fg} {j : Nat} {C : Addr} {v : V} {σ : L2.St} {H : Hp} (hv : σ[j]? = some (some v)) (e : ErrV H v C) (X : ExcC K C) : ∀ {Ds : List Addr} {bs : List Bool} {Q : List V → Hp → Prop}, Kits K C Ds bs → Q (bs.map V.bl) H → argsI K j Ds σ H Q
  | [], [], Q, _, q => q
  | D :: Ds, b :: bs, Q, k, q => is_okV hv e X (fun _ h => h) k.1 (argsI_ok hv e X k.2 q)
  | [], _ :: _, _, k, _ => k.elim
  | _ :: _, [], _, k, _ => k.elim
/-- of which classes an error is -/
def spSorts (K : Fg) (Ds : List Addr) : Sp := fun vs H Q _ => ∃ v C bs, vs = [v] ∧ ErrV H v C ∧ ExcC K C ∧ Kits K C Ds bs ∧ ∀ q H', Same H H' → H q = none → H' q = some (.lst (bs.map V.bl)) → Q (.ref q) H'
theorem smFresh {H H' : Hp} {p : Addr} {o : HO} (s : Same H H') (n : H p = none) : Same H (upd H' p o) := fun b u e => by
  rw [upd_ne (ne_of_none e n)]
  exact s b u e
theorem extS_ok {K : Fg} {C : Addr} {v : V} {p : Addr} {xs : List V} {Ds : List Addr} {bs : List Bool} {σ : L2.St} {H H' : Hp} {D : Ends} (hv : σ[0]? = some (some v)) (hp1 : σ[1]? = some (some (.ref p))) (s : Same H H') (np : H p = none) (hp : H' p = some (.lst xs)) (e : ErrV H v C) (X : ExcC K C) (k : Kits K C Ds bs)
    (z : xs.length + bs.length ≤ 1000) (hQ : ∀ H2, Same H H2 → H2 p = some (.lst (xs ++ bs.map V.bl)) → D.nx σ H2) : tDrop (tBM K "list" rExtend (tVar 1) (tCons (tLst (argsI K 0 Ds)) tNil)) D σ H' := by
  have hz : sizeLine = 16777216 := sizeLine_eq
  refine ⟨.ref p, hp1, .inl ⟨rfl, xs, .inl (.inl hp)⟩, argsI_ok (j := 0) hv (e.mono s) X k ⟨by rw [List.length_map]; omega, fun q hq => ?_⟩⟩
  refine ⟨p, q, xs, bs.map V.bl, rfl, rfl, (smNew hq) _ _ hp, upd_same, by rw [List.length_map]; omega, hQ _ (smFresh (s.trans (smNew hq)) np) upd_same⟩
theorem sorts_run {K : Fg} {A B C' D' : List Addr} {vs : List V} {H : Hp} {Q : VK} {E : XK} (z : A.length + B.length + C'.length + D'.length ≤ 1000) (h : spSorts K (A ++ (B ++ (C' ++ D'))) vs H Q E) :
    tSeq (tAsg (tLst (argsI K 0 A)) (gName 1)) (tSeq (tDrop (tBM K "list" rExtend (tVar 1) (tCons (tLst (argsI K 0 B)) tNil))) (tSeq (tDrop (tBM K "list" rExtend (tVar 1) (tCons (tLst (argsI K 0 C')) tNil))) (tRet (tOp (rAdd4 K) (tVar 1) (tLst (argsI K 0 D'))))))
      { nx := fun _ H' => Q .non H', rt := Q } (start ["_law_error", "_law_found"] vs) H := by
  obtain ⟨v, C, bs, rfl, e, X, k, h⟩ := h
  have hz : sizeLine = 16777216 := sizeLine_eq
  obtain ⟨k1, k⟩ := k.split
  obtain ⟨k2, k⟩ := k.split
  obtain ⟨k3, k4⟩ := k.split
  have l1 := k1.len
  have l2 := k2.len
  have l3 := k3.len
  have l4 := k4.len
  have hb : bs = bs.take A.length ++ ((bs.drop A.length).take B.length ++ (((bs.drop A.length).drop B.length).take C'.length ++ ((bs.drop A.length).drop B.length).drop C'.length)) := by
    rw [List.take_append_drop, List.take_append_drop, List.take_append_drop]
  generalize bs.take A.length = b1 at *
  generalize (bs.drop A.length).take B.length = b2 at *
  generalize ((bs.drop A.length).drop B.length).take C'.length = b3 at *
  generalize ((bs.drop A.length).drop B.length).drop C'.length = b4 at *
  subst hb
  refine argsI_ok (j := 0) rfl e X k1 ⟨by rw [List.length_map]; omega, fun p hp => ?_⟩
  refine extS_ok (K := K) (σ := [some v, some (.ref p)]) rfl rfl (smNew hp) hp upd_same e X k2 (by rw [List.length_map]; omega) fun H2 s2 hp2 => ?_
  refine extS_ok (K := K) (σ := [some v, some (.ref p)]) rfl rfl s2 hp hp2 e X k3 (by rw [List.length_append, List.length_map, List.length_map]; omega) fun H3 s3 hp3 => ?_
  refine ⟨.ref p, rfl, argsI_ok (j := 0) rfl (e.mono s3) X k4 ⟨by rw [List.length_map]; omega, fun q hq => ?_⟩⟩
  refine .inr (.inr (.inr ⟨p, q, _, _, rfl, rfl, (smNew hq) _ _ hp3, upd_same, by simp only [List.length_append, List.length_map]; omega, fun r hr => ?_⟩))
  refine h r _ (s3.trans ((smNew hq).trans (smNew hr))) (none_same (s3.trans (smNew hq)) hr) ?_
  rw [upd_same]
  simp
end DL
set_option Elab.async false
set_option linter.all false
set_option maxRecDepth 100000
set_option maxHeartbeats 2000000
namespace DL
open PySem PySem.Spec PyProof.Rows L2 DD
def seven {α : Type} (x : α) : List α := [x, x, x, x, x, x, x]
def EOk (p : PyData) : Prop := p.showable = true ∧ p.hasDict = false ∧ p.depth ≤ 50 ∧ (PyData.list (seven p)).shown.length ≤ sizeLine ∧ (PyData.list (seven (.list [p, .int 5]))).shown.length ≤ sizeLine
def tMd (cs : List (Addr × Str)) (E : XK) (j : Nat) : TE := tCallR (spMade cs) E (tCons (tVar j) tNil)
def tKp (K : Fg) (cs : List (Addr × Str)) (E : XK) (j : Nat) : TE := tCallR (spKept K cs) E (tCons (tVar j) tNil)
def tRp (K : Fg) (t : TE) : TE := tCB (rReprD K) (tCons t tNil)
def tNeR (K : Fg) (a b : TE) : TS := tIfS (tTest (tOp (rNe2 K) (tRp K a) (tRp K b))) (tRet (tC (.bl false))) tNext
section
variable {K : Fg} {cs : List (Addr × Str)} {E : XK} {σ : L2.St} {H : Hp} {y v : V} {p : PyData}
theorem dp7 {q : Addr} (h : H q = some (.lst (seven v))) (d : Dp K H v p) : Dp K H (.ref q) (.list (seven p)) :=
  .lst (.inl (.inl h)) (.cons d (.cons d (.cons d (.cons d (.cons d (.cons d (.cons d .nil)))))))
theorem rp7 {q : Addr} {Q : VK} (h : H q = some (.lst (seven v))) (d : Dp K H v p) (h1 : p.showable = true) (h2 : p.hasDict = false) (h3 : p.depth ≤ 55) (h4 : (PyData.list (seven p)).shown.length ≤ sizeLine) (k : Q (.str (PyData.list (seven p)).shown) H) : rReprD K [.ref q] H Q := by
  refine ⟨q, .list (seven p), rfl, dp7 h d, ?_, ?_, ?_, h4, k⟩
  · simp [seven, PyData.showable, PyData.showableAll, h1]
  · simp [seven, PyData.hasDict, PyData.hasDictAll, h2]
  · simp [seven, PyData.depth, PyData.depthAll]
    omega
/-- what is kept, told, and what should be -/
theorem ne_ok {D : Ends} {j : Nat} {a : Addr} {ws : List V} {tb : TE} (l : cs.length = 7) (hx : ∀ c ∈ cs, XfC K c.1 ∧ PySem.W.findIn K (.ref c.1) c.2 = some none) (hj : σ[j]? = some (some (.ref a))) (ha : H a = some (.lst ws)) (e : Errs H y cs ws)
    (d : ∀ H', Same H H' → Dp K H' y p) (h1 : p.showable = true) (h2 : p.hasDict = false) (h3 : p.depth ≤ 55) (h4 : (PyData.list (seven p)).shown.length ≤ sizeLine)
    (hb : ∀ (H1 : Hp) (Q : VK), Same H H1 → (∀ q y' H2, Same H1 H2 → H2 q = some (.lst (seven y')) → Dp K H2 y' p → Q (.ref q) H2) → tb σ H1 Q) (k : ∀ H', Same H H' → D.nx σ H') : tNeR K (tKp K cs E j) tb D σ H := by
  refine ⟨.ref a, hj, a, y, ws, rfl, ha, e, hx, fun q H1 s1 nq hq => ?_⟩
  rw [l] at hq
  show rReprD K [V.ref q] H1 (fun x H2 => tRp K tb σ H2 fun y H3 => rNe2 K x y H3 fun z H' => ∃ k, z = V.bl k ∧ (if k = true then tRet (tC (.bl false)) D σ H' else tNext D σ H'))
  refine rp7 (v := y) hq (d H1 s1) h1 h2 h3 h4 ?_
  refine hb H1 _ s1 fun q2 y' H2 s2 hq2 d2 => ?_
  show rReprD K [V.ref q2] H2 (fun y H3 => rNe2 K _ y H3 fun z H' => ∃ k, z = V.bl k ∧ (if k = true then tRet (tC (.bl false)) D σ H' else tNext D σ H'))
  refine rp7 (v := y') hq2 d2 h1 h2 h3 h4 (.inl ⟨rfl, false, by simp, ?_⟩)
  rw [if_neg (by decide)]
  exact k H2 (s1.trans s2)
end
theorem Errs.chg {H : Hp} {y : V} {b : Addr} {xs : List V} {o : HO} (hb : H b = some (.lst xs)) : ∀ {cs : List (Addr × Str)} {vs : List V}, Errs H y cs vs → Errs (upd H b o) y cs vs
  | [], [], _ => trivial
  | c :: cs, v :: vs, h => by
    refine ⟨?_, Errs.chg hb h.2⟩
    obtain ⟨a, dx, e, h1, h2⟩ := h.1
    have n1 : a ≠ b := at_ne hb h1 (fun z => by unfold exo at z; cases z)
    have n2 : dx ≠ b := at_ne hb h2 (fun z => by unfold exd at z; cases z)
    exact ⟨a, dx, e, by rw [upd_ne n1]; exact h1, by rw [upd_ne n2]; exact h2⟩
  | [], _ :: _, h => h.elim
  | _ :: _, [], h => h.elim
theorem rep7 {K : Fg} {a : Addr} {v : V} {H : Hp} {Q : VK} (h : H a = some (.lst [v])) (k : ∀ q, H q = none → Q (.ref q) (upd H q (.lst (seven v)))) : rRep K (.ref a) (.int 7) H Q :=
  ⟨a, [v], 7, rfl, rfl, .inl (.inl h), by decide, by decide, by rw [sizeLine_eq]; simp, fun q hq => k q hq⟩
def segT (K : Fg) (cs : List (Addr × Str)) (E1 E2 E3 E4 : XK) (R : TS) : TS :=
  tSeq (tAsg (tMd cs E1 4) (gName 5)) (tSeq (tNeR K (tKp K cs E2 5) (tOp (rRep K) (tLst (tCons (tVar 4) tNil)) (tC (.int 7)))) (tSeq (tAsg (tLst (tCons (tVar 4) tNil)) (gName 6)) (tSeq (tAsg (tMd cs E3 6) (gName 7))
    (tSeq (tDrop (tBM K "list" rAppend (tVar 6) (tCons (tC (.int 5)) tNil))) (tSeq (tNeR K (tKp K cs E4 7) (tOp (rRep K) (tLst (tCons (tLst (tCons (tVar 4) (tCons (tC (.int 5)) tNil))) tNil)) (tC (.int 7)))) R)))))
theorem segA {K : Fg} {cs : List (Addr × Str)} {E1 E2 E3 E4 : XK} {R : TS} {D : Ends} {σ : L2.St} {G H : Hp} {v : V} {d : DL.D} {p : PyData} (l : cs.length = 7) (hx : ∀ c ∈ cs, XfC K c.1 ∧ PySem.W.findIn K (.ref c.1) c.2 = some none) (hσ : 8 ≤ σ.length) (h4 : σ[4]? = some (some v))
    (r : Rep K G v d) (gh : Same G H) (hp : d.py = some p) (ok : EOk p)
    (k : ∀ σ' H' a ws, Same H H' → (∃ x5 x6 x7, σ' = ((σ.set 5 x5).set 6 x6).set 7 x7) → σ'[5]? = some (some (.ref a)) → H' a = some (.lst ws) → Errs H' v cs ws → R D σ' H') : segT K cs E1 E2 E3 E4 R D σ H := by
  have hz : sizeLine = 16777216 := sizeLine_eq
  have dp : ∀ H', Same H H' → Dp K H' v p := fun H' s => (r.mono (gh.trans s)).dp hp
  refine ⟨v, h4, v, rfl, fun a ws H1 s1 na ha e1 => ?_⟩
  have g5 : (σ.set 5 (some (.ref a)))[5]? = some (some (V.ref a)) := List.getElem?_set_self (by omega)
  have g54 : (σ.set 5 (some (V.ref a)))[4]? = some (some v) := by rw [List.getElem?_set_ne (by omega)]; exact h4
  refine ne_ok (σ := σ.set 5 (some (.ref a))) (y := v) (p := p) l hx g5 ha e1 (fun H' s => dp H' (s1.trans s)) ok.1 ok.2.1 (by have := ok.2.2.1; omega) ok.2.2.2.1 (fun H2 Q s2 hq => ?_) fun H2 s2 => ?_
  · refine ⟨v, g54, by rw [hz]; simp, fun b nb => rep7 (upd_same) fun q nq => ?_⟩
    have s3 : Same H2 (upd (upd H2 b (.lst [v])) q (.lst (seven v))) := (smNew nb).trans (smNew nq)
    exact hq q v _ s3 upd_same (dp _ (s1.trans (s2.trans s3)))
  · refine ⟨v, g54, by rw [hz]; simp, fun b nb => ?_⟩
    have g6 : ((σ.set 5 (some (V.ref a))).set 6 (some (.ref b)))[6]? = some (some (V.ref b)) := List.getElem?_set_self (by rw [List.length_set]; omega)
    refine ⟨.ref b, g6, .ref b, rfl, fun a7 ws7 H4 s4 n7 ha7 e7 => ?_⟩
    have hb4 : H4 b = some (.lst [v]) := s4 _ _ upd_same
    have n7b : a7 ≠ b := fun q => by rw [q, upd_same] at n7; cases n7
    have g7 : (((σ.set 5 (some (V.ref a))).set 6 (some (V.ref b))).set 7 (some (.ref a7)))[7]? = some (some (V.ref a7)) := List.getElem?_set_self (by rw [List.length_set, List.length_set]; omega)
    have g76 : (((σ.set 5 (some (V.ref a))).set 6 (some (V.ref b))).set 7 (some (V.ref a7)))[6]? = some (some (V.ref b)) := by rw [List.getElem?_set_ne (by omega)]; exact g6
    have g75 : (((σ.set 5 (some (V.ref a))).set 6 (some (V.ref b))).set 7 (some (V.ref a7)))[5]? = some (some (V.ref a)) := by rw [List.getElem?_set_ne (by omega), List.getElem?_set_ne (by omega)]; exact g5
    have g74 : (((σ.set 5 (some (V.ref a))).set 6 (some (V.ref b))).set 7 (some (V.ref a7)))[4]? = some (some v) := by rw [List.getElem?_set_ne (by omega), List.getElem?_set_ne (by omega)]; exact g54
    refine ⟨.ref b, g76, .inl ⟨rfl, _, .inl (.inl hb4)⟩, b, [v], .int 5, rfl, rfl, hb4, by rw [hz]; simp, ?_⟩
    have s5 : Same H2 (upd H4 b (.lst ([v] ++ [.int 5]))) := smFresh ((smNew nb).trans s4) nb
    have sH5 : Same H (upd H4 b (.lst ([v] ++ [.int 5]))) := s1.trans (s2.trans s5)
    have hb5 : (upd H4 b (.lst ([v] ++ [V.int 5]))) b = some (.lst [v, .int 5]) := upd_same
    have ha75 : (upd H4 b (.lst ([v] ++ [V.int 5]))) a7 = some (.lst ws7) := by rw [upd_ne n7b]; exact ha7
    have e75 := Errs.chg (o := .lst ([v] ++ [V.int 5])) hb4 e7
    generalize upd H4 b (.lst ([v] ++ [V.int 5])) = H5 at *
    have dp2 : ∀ H' (q : Addr), Same H H' → H' q = some (.lst [v, .int 5]) → Dp K H' (.ref q) (.list [p, .int 5]) := fun H' q s h => .lst (.inl (.inl h)) (.cons (dp H' s) (.cons (.int 5) .nil))
    refine ne_ok (σ := ((σ.set 5 (some (.ref a))).set 6 (some (.ref b))).set 7 (some (.ref a7))) (y := .ref b) (p := .list [p, .int 5]) l hx g7 ha75 e75 (fun H' s => dp2 H' b (sH5.trans s) (s _ _ hb5)) ?_ ?_ ?_ ok.2.2.2.2 (fun H6 Q s6 hq => ?_) fun H6 s6 => ?_
    · simp [PyData.showable, PyData.showableAll, ok.1]
      decide +kernel
    · simp [PyData.hasDict, PyData.hasDictAll, ok.2.1]
    · have := ok.2.2.1
      simp [PyData.depth, PyData.depthAll]
      omega
    · refine ⟨v, g74, by rw [hz]; simp, fun c nc => ⟨by rw [hz]; simp, fun c2 nc2 => rep7 (upd_same) fun q nq => ?_⟩⟩
      have s7 : Same H6 (upd (upd (upd H6 c (.lst [v, .int 5])) c2 (.lst [.ref c])) q (.lst (seven (.ref c)))) := (smNew nc).trans ((smNew nc2).trans (smNew nq))
      exact hq q (.ref c) _ s7 upd_same (dp2 _ c (sH5.trans (s6.trans s7)) (((smNew nc2).trans (smNew nq)) _ _ upd_same))
    · exact k _ H6 a ws (sH5.trans s6) ⟨_, _, _, rfl⟩ g75 (s6 _ _ (s5 _ _ (s2 _ _ ha))) (e1.mono (s2.trans (s5.trans s6)))
end DL
set_option Elab.async false
set_option linter.all false
set_option maxRecDepth 100000
set_option maxHeartbeats 2000000
namespace DL
open PySem PySem.Spec PyProof.Rows L2 DD
section
variable {K : Fg} {E : XK} {F : Fm} {G G' H H' : Hp} {σ : L2.St} {ρ : En}
def Plain (ρ : En) : Prop := ∀ (i : Nat) (s : Slot), ρ[i]? = some s → (∃ d, s = .val d) ∨ s = .none
theorem Rl.noMp (R : Rl K F G H σ ρ) (hp : Plain ρ) (i : Nat) (a : Addr) : F.M i ≠ some a := fun h => by
  obtain ⟨_, _, o, h3⟩ := R.hm i a h
  rcases hp i _ h3 with ⟨d, e⟩ | e <;> cases e
theorem Rl.replain (R : Rl K F G H σ ρ) (hp : Plain ρ) (g : Same G G') (gh : Same G' H') (gn : ∀ a o, G' a = some o → F.G0 a = none → F.H0 a = none) (hk : ∀ a o, F.H0 a = some o → H' a = some o) (tb : TabR F.T F.G0 G' H') : Rl K F G' H' σ ρ where
  gh := gh
  g0 := R.g0.trans g
  gn := gn
  hk := fun a o h _ => hk a o h
  hm := fun i a h => absurd h (R.noMp hp i a)
  hl := R.hl
  sl := fun i s h => by
    obtain ⟨x, h1, h2⟩ := R.sl i s h
    refine ⟨x, h1, ?_⟩
    rcases hp i s h with ⟨d, rfl⟩ | rfl
    · obtain ⟨v, e1, e2⟩ := h2
      exact ⟨v, e1, e2.mono g⟩
    · trivial
  di := fun i j o o' a h1 => by
    rcases hp i _ h1 with ⟨d, e⟩ | e <;> cases e
  mi := fun i j a h => absurd h (R.noMp hp i a)
  tb := tb
theorem Rl.hkp (R : Rl K F G H σ ρ) (hp : Plain ρ) : ∀ a o, F.H0 a = some o → H a = some o := fun a o h => R.hk a o h fun i => R.noMp hp i a
def ρ0 (n : Int) (s : Bool) : En := [.val (.int n), .val (.bl s), .none, .none, .none, .none, .none, .none]
theorem plain0 {n : Int} {s : Bool} : Plain (ρ0 n s) := fun i t h => by
  match i, h with
  | 0, h => cases h; exact .inl ⟨_, rfl⟩
  | 1, h => cases h; exact .inl ⟨_, rfl⟩
  | 2, h => cases h; exact .inr rfl
  | 3, h => cases h; exact .inr rfl
  | 4, h => cases h; exact .inr rfl
  | 5, h => cases h; exact .inr rfl
  | 6, h => cases h; exact .inr rfl
  | 7, h => cases h; exact .inr rfl
/-- the state while one inner list grows: a the outer list, p the inner one at k, us its content so far -/
structure Mid (K : Fg) (F : Fm) (n : Int) (s : Bool) (k : Nat) (DS : List D) (a p : Addr) (G H : Hp) (σ : L2.St) (es : List D) : Prop where
  R : Rl K F G H σ (ρ0 n s)
  s2 : σ[2]? = some (some (.ref a))
  s3 : σ[3]? = some (some (.int k))
  a0 : F.H0 a = none
  ag : G a = none
  p0 : F.H0 p = none
  pg : G p = none
  ne : p ≠ a
  hk : k < DS.length
  vs : ∃ vs, H a = some (.lst (vs.set k (.ref p))) ∧ RepA K G vs DS
  ws : ∃ ws, H p = some (.lst ws) ∧ RepA K G ws es
variable {n : Int} {s : Bool} {k : Nat} {DS es : List D} {a p : Addr}
theorem Mid.size (M : Mid K F n s k DS a p G H σ es) : σ[0]? = some (some (.int n)) := by
  obtain ⟨x, h1, v, rfl, h2⟩ := M.R.sl 0 (.val (.int n)) rfl
  cases h2
  exact h1
/-- the heap grows -/
theorem Mid.grow (M : Mid K F n s k DS a p G H σ es) (e : Same H H') : Mid K F n s k DS a p G H' σ es where
  R := M.R.replain plain0 (Same.refl G) (M.R.gh.trans e) M.R.gn (fun b o h => e b o (M.R.hkp plain0 b o h)) (M.R.tb.grow e)
  s2 := M.s2
  s3 := M.s3
  a0 := M.a0
  ag := M.ag
  p0 := M.p0
  pg := M.pg
  ne := M.ne
  hk := M.hk
  vs := by
    obtain ⟨vs, h1, h2⟩ := M.vs
    exact ⟨vs, e _ _ h1, h2⟩
  ws := by
    obtain ⟨ws, h1, h2⟩ := M.ws
    exact ⟨ws, e _ _ h1, h2⟩
/-- a name is stored to -/
theorem Mid.put {i : Nat} {x : Option V} (M : Mid K F n s k DS a p G H σ es) (h : i = 4 ∨ i = 5) : Mid K F n s k DS a p G H (σ.set i x) es where
  R := by
    have := M.R.forget (i := i) (x := x) (by rcases h with rfl | rfl <;> rfl)
    rcases h with rfl | rfl <;> exact this
  s2 := by rw [List.getElem?_set_ne (by omega)]; exact M.s2
  s3 := by rw [List.getElem?_set_ne (by omega)]; exact M.s3
  a0 := M.a0
  ag := M.ag
  p0 := M.p0
  pg := M.pg
  ne := M.ne
  hk := M.hk
  vs := M.vs
  ws := M.ws
end
end DL
set_option Elab.async false
set_option linter.all false
set_option maxRecDepth 100000
set_option maxHeartbeats 2000000
namespace DL
open PySem PySem.Spec PyProof.Rows L2 DD
section
variable {K : Fg} {a : Addr} {i : Nat} {x : Xc} {d : Option Addr} {ta : TE} {t : TA} {A : En → Res X} {T : En → Res (List X)}
theorem kit_ty {A : Addr} {B : String} {b : Bool} (h4 : PySem.W.subIn K (.ref A) (.type B) = some b) (h5 : PySem.W.subIn K (.ref A) (.ref A) = some true) (hm : PySem.W.kitMeta B = true := by decide +kernel) : PySem.W.kitOne K (.ref A) (.type B) = some b := by
  unfold PySem.W.kitOne
  have e : ((Value.ref A) == (Value.type B)) = false := by
    cases q : ((Value.ref A) == (Value.type B)) with
    | false => rfl
    | true => exact absurd (beq_iff_eq.mp q) (by intro z; cases z)
  simp [e, PySem.W.kitCls, hm, h4]
end
def NoTbl (H : Hp) : Prop := ∀ b ps, H b ≠ some (.tbl ps)
/-- the frame's tables are T, its heap at the entry is told without any -/
def Fm.has (F : Fm) (T : Tbs) : Prop := F.T = T ∧ NoTbl F.H0 ∧ NoTbl F.G0
section
variable {α β γ δ : Type} {K : Fg} {E : XK} {F : Fm} {G G' H H' : Hp} {σ σ' : L2.St} {ρ ρ' : En} {Tt : Tbs}
theorem Rl.noG (R : Rl K F G H σ ρ) (h : NoTbl F.G0) : NoTbl G := fun b ps e => by
  cases q : F.G0 b with
  | none => exact R.tb.2.2 b _ e q ps rfl
  | some o =>
    have := R.g0 _ _ q
    rw [e] at this
    cases this
    exact h b ps q
theorem Fm.has.at (h : F.has Tt) (R : Rl K F G H σ ρ) : (F.at G).has Tt := ⟨h.1, h.2.1, R.noG h.2.2⟩
def LGt (K : Fg) (Tt : Tbs) (E : XK) (rel : Rel β α) (t : L2.St → Hp → (β → Hp → Prop) → Prop) (T : En → Res α) : Prop :=
  ∀ (F : Fm) (G H : Hp) (σ : L2.St) (ρ : En) (Q : β → Hp → Prop), F.has Tt → Rl K F G H σ ρ → Wants K E rel F G σ Q (T ρ) → t σ H Q
theorem LGt.bind {rel : Rel β α} {rel2 : Rel δ γ} {t : L2.St → Hp → (β → Hp → Prop) → Prop} {T : En → Res α} {k : β → L2.St → Hp → (δ → Hp → Prop) → Prop} {U : α → En → Res γ} (h : LGt K Tt E rel t T)
    (h2 : ∀ F G H σ ρ b a Q, F.has Tt → Rl K F G H σ ρ → rel F G H σ ρ b a → Wants K E rel2 F G σ Q (U a ρ) → k b σ H Q) : LGt K Tt E rel2 (fun σ H Q => t σ H fun b H1 => k b σ H1 Q) (fun ρ => (T ρ).bind U) := by
  intro F G H σ ρ Q hF R w
  exact h F G H σ ρ _ hF R (w.bind fun b a G' H' ρ' R' s q w' => h2 F G' H' σ ρ' b a Q hF R' q w')
variable {r : R2} {op : D2} {ta tb : TE} {A B : En → Res X} {tt uu : TT} {T U : En → Res Bool} {s u : TS} {S V : En → SR}
def frzE : List Nat → En → En
  | [], ρ => ρ
  | i :: is, ρ => frzE is (match ρ[i]? with
    | some (.own o) => ρ.set i (.val o.d)
    | _ => ρ)
theorem Rl.frzE : ∀ (is : List Nat) {G : Hp} {ρ : En}, Rl K F G H σ ρ → ∃ G', Rl K F G' H σ (frzE is ρ) ∧ Same G G'
  | [], G, ρ, R => ⟨G, R, Same.refl G⟩
  | i :: is, G, ρ, R => by
    unfold DL.frzE
    split
    · rename_i o e
      obtain ⟨G1, a, _, R1, s1, _⟩ := R.give e
      obtain ⟨G2, R2, s2⟩ := R1.frzE is
      exact ⟨G2, R2, s1.trans s2⟩
    · exact R.frzE is
def vals (ρ : En) : En := ρ.map fun s => match s with
  | .val d => .val d
  | _ => .none
end
end DL
set_option Elab.async false
set_option linter.all false
set_option maxRecDepth 100000
set_option maxHeartbeats 2000000
namespace DL
open PySem PySem.Spec PyProof.Rows L2 DD
def Ag (I : Nat → Prop) (σ σ' : L2.St) : Prop := σ'.length = σ.length ∧ ∀ i, ¬ I i → σ'[i]? = σ[i]?
theorem Ag.refl {I : Nat → Prop} (σ : L2.St) : Ag I σ σ := ⟨rfl, fun _ _ => rfl⟩
theorem Ag.trans {I : Nat → Prop} {a b c : L2.St} (h : Ag I a b) (h' : Ag I b c) : Ag I a c := ⟨h'.1.trans h.1, fun i n => (h'.2 i n).trans (h.2 i n)⟩
theorem Ag.set {I : Nat → Prop} {σ σ' : L2.St} {i : Nat} {x : Option V} (h : Ag I σ σ') (hi : I i) : Ag I σ (σ'.set i x) := ⟨by rw [List.length_set]; exact h.1, fun j n => by
  have q : i ≠ j := fun q => n (by rw [← q]; exact hi)
  rw [List.getElem?_set_ne q]
  exact h.2 j n⟩
theorem Rl.ag {K : Fg} {F : Fm} {G H : Hp} {σ σ' : L2.St} {ρ : En} {I : Nat → Prop} (R : Rl K F G H σ ρ) (h : Ag I σ σ') (hn : ∀ i, I i → ρ[i]? = some .none ∨ ρ[i]? = Option.none) : Rl K F G H σ' ρ where
  gh := R.gh
  g0 := R.g0
  gn := R.gn
  hk := R.hk
  hm := R.hm
  hl := R.hl
  sl := fun j s hs => by
    obtain ⟨y, h1, h2⟩ := R.sl j s hs
    by_cases q : I j
    · rcases hn j q with e | e
      · rw [e] at hs
        cases hs
        have l : j < σ'.length := by rw [h.1]; exact (List.getElem?_eq_some_iff.mp h1).1
        exact ⟨_, List.getElem?_eq_getElem l, trivial⟩
      · rw [e] at hs
        cases hs
    · exact ⟨y, (h.2 j q).trans h1, h2⟩
  di := fun j k o o' a h1 h2 h3 h4 => by
    have n1 : ¬ I j := fun q => by rcases hn j q with e | e <;> rw [e] at h1 <;> cases h1
    have n2 : ¬ I k := fun q => by rcases hn k q with e | e <;> rw [e] at h2 <;> cases h2
    rw [h.2 j n1] at h3
    rw [h.2 k n2] at h4
    exact R.di j k o o' a h1 h2 h3 h4
  mi := R.mi
  tb := R.tb
theorem lc_rng {n : Nat} {ys : List V} {H1 : Hp} {σ : L2.St} {i : Nat} {te : TE} {Q : VK} (hl : ys.length = n) (hz : n ≤ 1000)
    (he : ∀ (k : Nat) (y : V) (H' : Hp), ys[k]? = some y → Same H1 H' → ∀ Q' : VK, Q' y H' → te ((wipe σ [i]).set i (some (.int (k : Nat)))) H' Q') (hQ : ∀ D H', H1 D = none → Same H1 H' → H' D = some (.lst ys) → Q (.ref D) H') :
    tLc (iRng1 (tCons (tC (.int (n : Nat))) tNil)) (gName i) tYes te [i] σ H1 Q := by
  refine ⟨(n : Nat), rfl, by omega, by omega, ?_⟩
  intro D nD
  have hs : sizeLine = 16777216 := sizeLine_eq
  have smD : ∀ {H : Hp} {o : HO}, Same H1 H → Same H1 (upd H D o) := fun s b u e => by
    rw [upd_ne (ne_of_none e nD)]
    exact s b u e
  refine ⟨fun k m H => k ≤ n ∧ m = n - k ∧ Same H1 H ∧ H D = some (.lst (ys.take k)), ⟨_, Nat.zero_le _, rfl, smD (Same.refl H1), upd_same⟩, fun k m H ⟨w1, w2, w3, w4⟩ => ?_⟩
  by_cases hk : k = n
  · left
    refine ⟨?_, hQ D H nD w3 ?_⟩
    · show n ≤ k
      omega
    · rw [w4, List.take_of_length_le (by omega)]
  · right
    have hk2 : k < ys.length := by omega
    refine ⟨?_, fun H' => Same H1 H' ∧ H' D = some (.lst (ys.take (k + 1))), fun H' h => ⟨n - (k + 1), by omega, by omega, rfl, h.1, h.2⟩, fun x H' hy => ?_⟩
    · show k < n
      omega
    · have hy' : H' = H ∧ x = .int (k : Nat) := ⟨hy.1, by have := hy.2; rw [this]; simp⟩
      obtain ⟨rfl, rfl⟩ := hy'
      refine ⟨wipe1, ?_⟩
      unfold tYes
      simp only [if_true]
      refine he k ys[k] _ (List.getElem?_eq_getElem hk2) w3 _ ⟨_, w4, by rw [List.length_take]; omega, smD w3, ?_⟩
      rw [upd_same, List.take_add_one, List.getElem?_eq_getElem hk2]
      rfl
/-- which of nine -/
def bits (k : Nat) : List Bool := (List.range 9).map fun j => decide (j = k)
theorem bits_eqv : ∀ k, k < 9 → PyData.eqv (.list ((bits k).map PyData.bool)) (.list ((bits k).map PyData.bool)) = true ∧ SeqAt.shaped (.list ((bits k).map PyData.bool)) = true := by
  decide +kernel
theorem dpB {K : Fg} {H : Hp} : ∀ bs : List Bool, DpAll K H (bs.map V.bl) (bs.map PyData.bool)
  | [] => .nil
  | b :: bs => .cons (.bl b) (dpB bs)
/-- what nine error classes say of each other -/
structure EF (K : Fg) (Cs : List Addr) (CD : Addr) : Prop where
  len : Cs.length = 9
  exc : ∀ C ∈ Cs, ExcC K C
  kit : ∀ i C, Cs[i]? = some C → Kits K C Cs (bits i)
  dim : ∀ i C, Cs[i]? = some C → PySem.W.kitOne K (.ref C) (.ref CD) = some (decide (i ≠ 6))
  val : ∀ i C, Cs[i]? = some C → PySem.W.kitOne K (.ref C) (.type "ValueError") = some (decide (i ≠ 6))
  ind : ∀ i C, Cs[i]? = some C → PySem.W.kitOne K (.ref C) (.type "IndexError") = some (decide (i = 6))
def bodyT (K : Fg) (Cs : List Addr) (CD : Addr) (E : XK) : TS :=
  tSeq (tIfS (tTest (tOp (rNe2 K) (tCallR (spSorts K Cs) E (tCons (tVar 9) tNil)) (tLc (iRng1 (tCons (tC (.int 9)) tNil)) (gName 11) tYes (tOp (rEq2 K) (tVar 11) (tVar 8)) [11]))) (tRet (tC (.bl false))) tNext)
  (tSeq (tAsg (tAndV (tIsX K 9 (.ref CD)) (tIsX K 9 (.ty "ValueError"))) (gName 10))
   (tIfS (tOr (tTest (tOp (rNe2 K) (tVar 10) (tOp (rNe2 K) (tVar 8) (tC (.int 6))))) (tTest (tOp (rNe2 K) (tIsX K 9 (.ty "IndexError")) (tOp (rEq2 K) (tVar 8) (tC (.int 6)))))) (tRet (tC (.bl false))) tNext))
theorem body_ok {K : Fg} {Cs : List Addr} {CD : Addr} {E : XK} {k : Nat} {C : Addr} {v : V} {σ : L2.St} {H : Hp} {D : Ends} (f : EF K Cs CD) (hk : Cs[k]? = some C) (hl : 12 ≤ σ.length) (h8 : σ[8]? = some (some (.int (k : Nat)))) (h9 : σ[9]? = some (some v)) (e : ErrV H v C)
    (q : ∀ H' x, Same H H' → D.nx (σ.set 10 x) H') : bodyT K Cs CD E D σ H := by
  have k9 : k < 9 := by
    have := (List.getElem?_eq_some_iff.mp hk).1
    rw [f.len] at this
    exact this
  have X := f.exc C (List.mem_of_getElem? hk)
  obtain ⟨eq1, eq2⟩ := bits_eqv k k9
  refine ⟨v, h9, v, C, bits k, rfl, e, X, f.kit k C hk, fun p H1 s1 np hp => ?_⟩
  show tLc (iRng1 (tCons (tC (.int (9 : Nat))) tNil)) (gName 11) tYes (tOp (rEq2 K) (tVar 11) (tVar 8)) [11] σ H1 (fun y H2 => rNe2 K (.ref p) y H2 fun z H' => ∃ k, z = V.bl k ∧ (if k = true then tRet (tC (.bl false)) _ σ H' else tNext _ σ H'))
  refine lc_rng (ys := (bits k).map V.bl) rfl (by omega) (fun j y H' hy s Q' hq => ?_) fun D2 H2 n2 s2 h2 => ?_
  · have hj : j < 9 := (List.getElem?_eq_some_iff.mp hy).1
    have e8 : ((wipe σ [11]).set 11 (some (.int (j : Nat))))[8]? = some (some (V.int (k : Nat))) := by
      simp only [wipe]
      rw [List.getElem?_set_ne (by omega), List.getElem?_set_ne (by omega)]
      exact h8
    have e11 : ((wipe σ [11]).set 11 (some (.int (j : Nat))))[11]? = some (some (V.int (j : Nat))) := List.getElem?_set_self (by simp [wipe]; omega)
    refine ⟨_, e11, _, e8, .inl ⟨rfl, ?_⟩⟩
    have ey : y = .bl (decide (V.int (j : Nat) = V.int (k : Nat))) := by
      have : ((bits k).map V.bl)[j]? = some (.bl (decide (j = k))) := by
        simp [bits, hj]
      rw [this] at hy
      cases hy
      congr 1
      by_cases c : j = k
      · subst c; simp
      · have : ¬ ((j : Int) = (k : Int)) := by omega
        simp [c, this]
    rw [← ey]
    exact hq
  · have hp2 : H2 p = some (.lst ((bits k).map V.bl)) := s2 _ _ hp
    refine .inr (.inl ⟨_, _, .lst (.inl (.inl hp2)) (dpB (bits k)), .lst (.inl (.inl h2)) (dpB (bits k)), eq2, eq2, false, by rw [eq1]; rfl, ?_⟩)
    rw [if_neg (by decide)]
    have e2 := e.mono (s1.trans s2)
    refine is_okV h9 e2 X (fun _ h => h) (f.dim k C hk) ⟨_, rfl, ?_⟩
    have nxt : ∀ b : Bool, b = decide (k ≠ 6) → tIfS (tOr (tTest (tOp (rNe2 K) (tVar 10) (tOp (rNe2 K) (tVar 8) (tC (.int 6))))) (tTest (tOp (rNe2 K) (tIsX K 9 (.ty "IndexError")) (tOp (rEq2 K) (tVar 8) (tC (.int 6)))))) (tRet (tC (.bl false))) tNext D (σ.set 10 (some (.bl b))) H2 := fun b hb => by
      have g8 : (σ.set 10 (some (V.bl b)))[8]? = some (some (V.int (k : Nat))) := by rw [List.getElem?_set_ne (by omega)]; exact h8
      have g9 : (σ.set 10 (some (V.bl b)))[9]? = some (some v) := by rw [List.getElem?_set_ne (by omega)]; exact h9
      have g10 : (σ.set 10 (some (V.bl b)))[10]? = some (some (V.bl b)) := List.getElem?_set_self (by omega)
      have d6 : decide (V.int (k : Nat) = V.int 6) = decide (k = 6) := by
        by_cases c : k = 6
        · subst c; simp
        · have : ¬ ((k : Int) = 6) := by omega
          simp [c, this]
      refine ⟨_, g10, _, g8, .inl ⟨rfl, .inl ⟨rfl, false, ?_, ?_⟩⟩⟩
      · rw [d6, hb]
        by_cases c : k = 6 <;> simp [c]
      · simp only [Bool.false_eq_true, if_false]
        refine is_okV g9 e2 X (fun _ h => h) (f.ind k C hk) ⟨_, g8, .inl ⟨rfl, .inl ⟨rfl, false, ?_, ?_⟩⟩⟩
        · rw [d6]
          simp
        · simp only [Bool.false_eq_true, if_false]
          exact q H2 _ (s1.trans s2)
    by_cases c : k = 6
    · rw [if_neg (by simp [c])]
      exact nxt false (by simp [c])
    · rw [if_pos (by simp [c])]
      exact is_okV h9 e2 X (fun _ h => h) (f.val k C hk) (nxt (decide (k ≠ 6)) rfl)
theorem errs_all {H : Hp} {y v8 v9 : V} {C8 C9 : Addr} (h8 : ErrV H v8 C8) (h9 : ErrV H v9 C9) : ∀ {cs : List (Addr × Str)} {ws : List V} {i : Nat} {v : V}, Errs H y cs ws → (ws ++ [v8, v9])[i]? = some v → ∃ C, (cs.map (·.1) ++ [C8, C9])[i]? = some C ∧ ErrV H v C
  | [], [], 0, v, _, e => by
    cases e
    exact ⟨C8, rfl, h8⟩
  | [], [], 1, v, _, e => by
    cases e
    exact ⟨C9, rfl, h9⟩
  | [], [], i + 2, v, _, e => by simp at e
  | c :: cs, w :: ws, 0, v, h, e => by
    cases e
    exact ⟨c.1, rfl, h.1.v⟩
  | c :: cs, w :: ws, i + 1, v, h, e => by
    obtain ⟨C, h1, h2⟩ := errs_all (C8 := C8) (C9 := C9) h8 h9 (i := i) h.2 (by simpa using e)
    exact ⟨C, by simpa using h1, h2⟩
  | [], _ :: _, _, _, h, _ => h.elim
  | _ :: _, [], _, _, h, _ => h.elim
def mk0 (C : Addr) : TE := fun _ H Q => ∀ a, H a = none → Q (.ref a) (upd H a (ExO (.ref C) a))
def I510 (i : Nat) : Prop := 5 ≤ i ∧ i ≤ 10
def forT (K : Fg) (Cs : List Addr) (CD C8 C9 : Addr) (E : XK) : TS := tFor (iEnum K (tCons (tOp (rAdd4 K) (tVar 5) (tLst (tCons (mk0 C8) (tCons (mk0 C9) tNil)))) tNil)) (gTup K 2 (gCons (gName 8) (gCons (gName 9) gNil))) (bodyT K Cs CD E)
theorem for_ok {K : Fg} {cs : List (Addr × Str)} {CD C8 C9 : Addr} {E : XK} {y : V} {a : Addr} {ws : List V} {σ : L2.St} {H : Hp} {D : Ends} (f : EF K (cs.map (·.1) ++ [C8, C9]) CD) (hl : 12 ≤ σ.length) (h5 : σ[5]? = some (some (.ref a))) (ha : H a = some (.lst ws)) (e : Errs H y cs ws)
    (q : ∀ σ' H', Same H H' → Ag I510 σ σ' → D.nx σ' H') : forT K (cs.map (·.1) ++ [C8, C9]) CD C8 C9 E D σ H := by
  have hz : sizeLine = 16777216 := sizeLine_eq
  have l := e.len
  have fl := f.len
  rw [List.length_append, List.length_map] at fl
  have fl' : cs.length + 2 = 9 := fl
  refine ⟨.ref a, h5, fun a8 n8 a9 n9 => ⟨by rw [hz]; simp, fun b nb => ?_⟩⟩
  have s3 : Same H (upd (upd (upd H a8 (ExO (.ref C8) a8)) a9 (ExO (.ref C9) a9)) b (.lst [.ref a8, .ref a9])) := (smNew n8).trans ((smNew n9).trans (smNew nb))
  refine .inr (.inr (.inr ⟨a, b, ws, [.ref a8, .ref a9], rfl, rfl, s3 _ _ ha, upd_same, by rw [hz, l]; simp; omega, fun r hr => ?_⟩))
  have s4 := s3.trans (smNew (o := .lst (ws ++ [.ref a8, .ref a9])) hr)
  have v8 : ErrV (upd (upd (upd (upd H a8 (ExO (.ref C8) a8)) a9 (ExO (.ref C9) a9)) b (.lst [V.ref a8, V.ref a9])) r (.lst (ws ++ [V.ref a8, V.ref a9]))) (.ref a8) C8 := .inr ⟨a8, rfl, ((smNew n9).trans ((smNew nb).trans (smNew hr))) _ _ upd_same⟩
  have v9 : ErrV (upd (upd (upd (upd H a8 (ExO (.ref C8) a8)) a9 (ExO (.ref C9) a9)) b (.lst [V.ref a8, V.ref a9])) r (.lst (ws ++ [V.ref a8, V.ref a9]))) (.ref a9) C9 := .inr ⟨a9, rfl, ((smNew nb).trans (smNew hr)) _ _ upd_same⟩
  have e4 := e.mono s4
  have hr4 : (upd (upd (upd (upd H a8 (ExO (.ref C8) a8)) a9 (ExO (.ref C9) a9)) b (.lst [V.ref a8, V.ref a9])) r (.lst (ws ++ [V.ref a8, V.ref a9]))) r = some (.lst (ws ++ [.ref a8, .ref a9])) := upd_same
  generalize upd (upd (upd (upd H a8 (ExO (.ref C8) a8)) a9 (ExO (.ref C9) a9)) b (.lst [V.ref a8, V.ref a9])) r (.lst (ws ++ [V.ref a8, V.ref a9])) = H1 at *
  have le : (ws ++ [V.ref a8, V.ref a9]).length = 9 := by simp; omega
  have all := fun i v => errs_all v8 v9 (i := i) (v := v) e4
  generalize ws ++ [V.ref a8, V.ref a9] = es at *
  refine ⟨r, es, rfl, .inl (.inl hr4), fun k m σ' H' => k ≤ 9 ∧ m = 9 - k ∧ Same H1 H' ∧ Ag I510 σ σ', ⟨9, by omega, rfl, Same.refl H1, Ag.refl σ⟩, fun k m σ1 H2 ⟨w1, w2, w3, w4⟩ => ?_⟩
  have hL : SqL K H2 r es := .inl (.inl (w3 _ _ hr4))
  by_cases hk : k = 9
  · exact .inl ⟨⟨es, hL, by omega⟩, q σ1 H2 (s4.trans w3) w4⟩
  · have hk1 : k < es.length := by omega
    refine .inr ⟨⟨es, es[k], hL, List.getElem?_eq_getElem hk1⟩, fun σ' H' => Same H1 H' ∧ Ag I510 σ σ', fun σ' H' h => ⟨9 - (k + 1), by omega, by omega, rfl, h.1, h.2⟩, fun x H' hy => ?_⟩
    obtain ⟨T, x', rfl, nT, rfl, hx⟩ := hy
    have hx' := hx es hL
    obtain ⟨C, hC, hv⟩ := all k x' hx'
    refine ⟨T, [.int (k : Nat), x'], rfl, .inl (.inl upd_same), rfl, _, _, rfl, _, _, rfl, rfl, ?_⟩
    have l1 := w4.1
    have g9 : ((σ1.set 8 (some (.int (k : Nat)))).set 9 (some x'))[9]? = some (some x') := List.getElem?_set_self (by rw [List.length_set]; omega)
    have g8 : ((σ1.set 8 (some (.int (k : Nat)))).set 9 (some x'))[8]? = some (some (V.int (k : Nat))) := by rw [List.getElem?_set_ne (by omega)]; exact List.getElem?_set_self (by omega)
    refine body_ok f hC (by rw [List.length_set, List.length_set]; omega) g8 g9 (hv.mono (w3.trans (smNew nT))) fun H3 x s => ⟨w3.trans ((smNew nT).trans s), ?_⟩
    exact ((w4.set ⟨by omega, by omega⟩).set ⟨by omega, by omega⟩).set ⟨by omega, by omega⟩
open Classical in
/-- the turn's errors: nothing is left of them -/
noncomputable def sErr : En → SR := fun ρ => match ((frzE [4] ρ)[4]? : Option Slot) with
  | some (.val d) => if (∃ p, d.py = some p ∧ EOk p) ∧ (∀ i, I510 i → (frzE [4] ρ)[i]? = some .none) ∧ 12 ≤ (frzE [4] ρ).length then .nx (frzE [4] ρ) else .stuck
  | _ => .stuck
theorem LS_err {K : Fg} {cs : List (Addr × Str)} {CD C8 C9 : Addr} {E E1 E2 E3 E4 E5 : XK} (l : cs.length = 7) (hx : ∀ c ∈ cs, XfC K c.1 ∧ PySem.W.findIn K (.ref c.1) c.2 = some none) (f : EF K (cs.map (·.1) ++ [C8, C9]) CD) :
    LS K E (segT K cs E1 E2 E3 E4 (forT K (cs.map (·.1) ++ [C8, C9]) CD C8 C9 E5)) sErr := by
  intro F G H σ ρ D R w
  obtain ⟨G1, R1, s1⟩ := R.frzE [4]
  unfold sErr at w
  cases e4 : (frzE [4] ρ)[4]? with
  | none => rw [e4] at w; exact w.elim
  | some s =>
    rw [e4] at w
    cases s with
    | val d =>
      dsimp only at w
      split at w
      · rename_i hc
        obtain ⟨⟨p, hp, ok⟩, hn, hl⟩ := hc
        obtain ⟨v, h4, rv⟩ := R1.val e4
        have h11 : 12 ≤ σ.length := by
          obtain ⟨x, hx, _⟩ := R1.sl 11 (frzE [4] ρ)[11] (List.getElem?_eq_getElem (by omega))
          have := (List.getElem?_eq_some_iff.mp hx).1
          omega
        refine segA l hx (by omega) h4 rv R1.gh hp ok fun σ' H' a ws s ⟨x5, x6, x7, es⟩ h5 ha e => ?_
        have ag : Ag I510 σ σ' := by
          rw [es]
          exact (((Ag.refl σ).set ⟨by omega, by omega⟩).set ⟨by omega, by omega⟩).set ⟨by omega, by omega⟩
        refine for_ok f (by rw [ag.1]; exact h11) h5 ha e fun σ2 H2 s2 ag2 => ?_
        exact w σ2 G1 H2 ((R1.grow (s.trans s2)).ag (ag.trans ag2) fun i hi => .inl (hn i hi))
      · exact w.elim
    | none => exact w.elim
    | own o => exact w.elim
    | bor o => exact w.elim
    | lck o => exact w.elim
section
variable {P : Program} {w : World} {K : PySem.W.Frag} {mg : Str → Option Value} {base : Heap} {x qual : Str} {st : Stmt} {f : Addr} {N ps : List Str} {k : Nat} {sp : Sp}
/-- a def's own promise, by its body -/
theorem mkDx (F : ∃ fd, Fun K x qual st f fd) (S : FnScope N ps (defScope st)) (len : ∀ vs H Q E, sp vs H Q E → vs.length = ps.length)
    (hb : ∀ (kV doc pm : Value) (an : Option Addr) (cdv ct : Value) (us : List Value), us.length = ps.length → bindArgs (PySem.W.fnOf x qual (defArgs st) (defBody st) (defScope st) .none kV doc pm an cdv ct) ⟨us, []⟩ = pure (ps.zip us))
    (hbody : ∀ (cdv : Value) (A : Around) (outer : List Env) (s : Shared) (H : Hp) (E : XK), Room k (A.deeper (envOfC qual (defScope st) s.heap.objs.size f cdv)) →
      ∃ t, PSs (cxOf CX0 P w K mg base N qual (defScope st) f cdv A outer s H E).nox (defBody st) t ∧ ∀ vs H Q E, sp vs H Q E → t { nx := fun _ H' => Q .non H', rt := Q } (L2.start N vs) H) : FnR P w K mg base CX0 (k + 1) f sp := by
  obtain ⟨fd, F⟩ := F
  have G : FnOk P w K mg base CX0 (k + 1) f fd ps sp := F.ok S len fun cdv A outer s H vs Q E hr hs => by
    obtain ⟨t, h1, h2⟩ := hbody cdv A outer s H E hr
    exact ⟨t, h1, h2 vs H Q E hs⟩
  refine (G.raw (F.binds hb) .nil).imp fun vs H Q E h => ?_
  rw [List.append_nil]
  exact h
end
end DL
set_option Elab.async false
set_option linter.all false
set_option maxRecDepth 100000
set_option maxHeartbeats 4000000
namespace DD
open PySem PySem.Spec PyProof.Rows L2 ClX
def top (i : Nat) : Stmt := PySem.Challenge.pw_dimdays_k01_errors_and_what_they_keep.main.body.getD i (.Pass ⟨0, 0, 0, 0⟩)
abbrev s__law_choose : Stmt := top 13
theorem sc__law_choose : FnScope ["_law_box", "_law_many", "_law_raw", "_law_digit"] ["_law_box", "_law_many"] (defScope s__law_choose) := ⟨rfl, rfl, rfl, by decide +kernel, rfl, by decide +kernel, by decide +kernel⟩
abbrev s__law_one_of : Stmt := top 14
theorem sc__law_one_of : FnScope ["_law_box", "_law_some"] ["_law_box", "_law_some"] (defScope s__law_one_of) := ⟨rfl, rfl, rfl, by decide +kernel, rfl, by decide +kernel, by decide +kernel⟩
abbrev s__law_leaf : Stmt := top 15
theorem sc__law_leaf : FnScope ["_law_box", "_law_some"] ["_law_box"] (defScope s__law_leaf) := ⟨rfl, rfl, rfl, by decide +kernel, rfl, by decide +kernel, by decide +kernel⟩
abbrev s__law_any : Stmt := top 16
theorem sc__law_any : FnScope ["_law_box", "_law_deep", "_law_form", "_law_found", "_law_turn"] ["_law_box", "_law_deep"] (defScope s__law_any) := ⟨rfl, rfl, rfl, by decide +kernel, rfl, by decide +kernel, by decide +kernel⟩
abbrev s__law_kept : Stmt := top 18
theorem sc__law_kept : FnScope ["_law_errors", "_law_error"] ["_law_errors"] (defScope s__law_kept) := ⟨rfl, rfl, rfl, by decide +kernel, rfl, by decide +kernel, by decide +kernel⟩
abbrev s__law_made : Stmt := top 17
theorem sc__law_made : FnScope ["_law_value", "_law_found"] ["_law_value"] (defScope s__law_made) := ⟨rfl, rfl, rfl, by decide +kernel, rfl, by decide +kernel, by decide +kernel⟩
abbrev s__law_seed : Stmt := top 12
theorem sc__law_seed : FnScope ["_law_script", "_law_k", "_law_cell"] ["_law_script", "_law_k"] (defScope s__law_seed) := ⟨rfl, rfl, rfl, by decide +kernel, rfl, by decide +kernel, by decide +kernel⟩
abbrev s__law_sorts : Stmt := top 19
theorem sc__law_sorts : FnScope ["_law_error", "_law_found"] ["_law_error"] (defScope s__law_sorts) := ⟨rfl, rfl, rfl, by decide +kernel, rfl, by decide +kernel, by decide +kernel⟩
abbrev s_law : Stmt := top 20
theorem sc_law : FnScope ["_law_script", "_law_k", "_law_box", "_law_turn", "_law_value", "_law_errors", "_law_held", "_law_made_here", "_law_spot", "_law_error", "_law_is_plain", "_law_other"] ["_law_script"] (defScope s_law) := ⟨rfl, rfl, rfl, by decide +kernel, rfl, by decide +kernel, by decide +kernel⟩
abbrev s_InvalidDay___init__ : Stmt := inClass (top 2) 0
theorem sc_InvalidDay___init__ : FnScope ["self", "word"] ["self", "word"] (defScope s_InvalidDay___init__) := ⟨rfl, rfl, rfl, by decide +kernel, rfl, by decide +kernel, by decide +kernel⟩
abbrev s_InvalidFrame___init__ : Stmt := inClass (top 4) 0
theorem sc_InvalidFrame___init__ : FnScope ["self", "word"] ["self", "word"] (defScope s_InvalidFrame___init__) := ⟨rfl, rfl, rfl, by decide +kernel, rfl, by decide +kernel, by decide +kernel⟩
abbrev s_InvalidLooks___init__ : Stmt := inClass (top 6) 0
theorem sc_InvalidLooks___init__ : FnScope ["self", "at"] ["self", "at"] (defScope s_InvalidLooks___init__) := ⟨rfl, rfl, rfl, by decide +kernel, rfl, by decide +kernel, by decide +kernel⟩
abbrev s_InvalidRule___init__ : Stmt := inClass (top 3) 0
theorem sc_InvalidRule___init__ : FnScope ["self", "word"] ["self", "word"] (defScope s_InvalidRule___init__) := ⟨rfl, rfl, rfl, by decide +kernel, rfl, by decide +kernel, by decide +kernel⟩
abbrev s_InvalidText___init__ : Stmt := inClass (top 5) 0
theorem sc_InvalidText___init__ : FnScope ["self", "at"] ["self", "at"] (defScope s_InvalidText___init__) := ⟨rfl, rfl, rfl, by decide +kernel, rfl, by decide +kernel, by decide +kernel⟩
abbrev s_NoMeeting___init__ : Stmt := inClass (top 10) 0
theorem sc_NoMeeting___init__ : FnScope ["self", "at"] ["self", "at"] (defScope s_NoMeeting___init__) := ⟨rfl, rfl, rfl, by decide +kernel, rfl, by decide +kernel, by decide +kernel⟩
abbrev s_Refused___init__ : Stmt := inClass (top 9) 0
theorem sc_Refused___init__ : FnScope ["self", "at"] ["self", "at"] (defScope s_Refused___init__) := ⟨rfl, rfl, rfl, by decide +kernel, rfl, by decide +kernel, by decide +kernel⟩
structure Ad where
  f__law_choose : Addr
  f__law_one_of : Addr
  f__law_leaf : Addr
  f__law_any : Addr
  f__law_kept : Addr
  f__law_made : Addr
  f__law_seed : Addr
  f__law_sorts : Addr
  f_law : Addr
  C_DimError : Addr
  C_InvalidCommand : Addr
  C_InvalidDay : Addr
  C_InvalidFrame : Addr
  C_InvalidLooks : Addr
  C_InvalidRule : Addr
  C_InvalidSlot : Addr
  C_InvalidText : Addr
  C_NoMeeting : Addr
  C_Refused : Addr
  f_InvalidDay___init__ : Addr
  f_InvalidFrame___init__ : Addr
  f_InvalidLooks___init__ : Addr
  f_InvalidRule___init__ : Addr
  f_InvalidText___init__ : Addr
  f_NoMeeting___init__ : Addr
  f_Refused___init__ : Addr
structure Txt (K : PySem.W.Frag) (mg : Str → Option Value) (d : Ad) : Prop where
  m__law_choose : mg "_law_choose" = some (.ref d.f__law_choose)
  k__law_choose : PySem.W.keepIn K (.ref d.f__law_choose) = true
  F__law_choose : ∃ fd, Fun K "_law_choose" "_law_choose" s__law_choose d.f__law_choose fd
  m__law_one_of : mg "_law_one_of" = some (.ref d.f__law_one_of)
  k__law_one_of : PySem.W.keepIn K (.ref d.f__law_one_of) = true
  F__law_one_of : ∃ fd, Fun K "_law_one_of" "_law_one_of" s__law_one_of d.f__law_one_of fd
  m__law_leaf : mg "_law_leaf" = some (.ref d.f__law_leaf)
  k__law_leaf : PySem.W.keepIn K (.ref d.f__law_leaf) = true
  F__law_leaf : ∃ fd, Fun K "_law_leaf" "_law_leaf" s__law_leaf d.f__law_leaf fd
  m__law_any : mg "_law_any" = some (.ref d.f__law_any)
  k__law_any : PySem.W.keepIn K (.ref d.f__law_any) = true
  F__law_any : ∃ fd, Fun K "_law_any" "_law_any" s__law_any d.f__law_any fd
  m__law_kept : mg "_law_kept" = some (.ref d.f__law_kept)
  k__law_kept : PySem.W.keepIn K (.ref d.f__law_kept) = true
  F__law_kept : ∃ fd, Fun K "_law_kept" "_law_kept" s__law_kept d.f__law_kept fd
  m__law_made : mg "_law_made" = some (.ref d.f__law_made)
  k__law_made : PySem.W.keepIn K (.ref d.f__law_made) = true
  F__law_made : ∃ fd, Fun K "_law_made" "_law_made" s__law_made d.f__law_made fd
  m__law_seed : mg "_law_seed" = some (.ref d.f__law_seed)
  k__law_seed : PySem.W.keepIn K (.ref d.f__law_seed) = true
  F__law_seed : ∃ fd, Fun K "_law_seed" "_law_seed" s__law_seed d.f__law_seed fd
  m__law_sorts : mg "_law_sorts" = some (.ref d.f__law_sorts)
  k__law_sorts : PySem.W.keepIn K (.ref d.f__law_sorts) = true
  F__law_sorts : ∃ fd, Fun K "_law_sorts" "_law_sorts" s__law_sorts d.f__law_sorts fd
  m_law : mg "law" = some (.ref d.f_law)
  k_law : PySem.W.keepIn K (.ref d.f_law) = true
  F_law : ∃ fd, Fun K "law" "law" s_law d.f_law fd
  ox_InvalidDay : OexC K d.C_InvalidDay
  no_InvalidDay : PySem.W.findIn K (.ref d.C_InvalidDay) "word" = some none
  iC_InvalidDay : PySem.W.findIn K (.ref d.C_InvalidDay) "__init__" = some (some (.ref d.f_InvalidDay___init__))
  tI_InvalidDay : PySem.W.typeIn K (.ref d.f_InvalidDay___init__) = some (.type "function")
  F_InvalidDay___init__ : ∃ fd, Fun K "__init__" "InvalidDay.__init__" s_InvalidDay___init__ d.f_InvalidDay___init__ fd
  xf_InvalidDay : XfC K d.C_InvalidDay
  xc_InvalidDay : ExcC K d.C_InvalidDay
  te_InvalidDay : PySem.W.exmOne K (.ref d.C_InvalidDay) (.ref d.C_InvalidDay) = some true
  ox_InvalidFrame : OexC K d.C_InvalidFrame
  no_InvalidFrame : PySem.W.findIn K (.ref d.C_InvalidFrame) "word" = some none
  iC_InvalidFrame : PySem.W.findIn K (.ref d.C_InvalidFrame) "__init__" = some (some (.ref d.f_InvalidFrame___init__))
  tI_InvalidFrame : PySem.W.typeIn K (.ref d.f_InvalidFrame___init__) = some (.type "function")
  F_InvalidFrame___init__ : ∃ fd, Fun K "__init__" "InvalidFrame.__init__" s_InvalidFrame___init__ d.f_InvalidFrame___init__ fd
  xf_InvalidFrame : XfC K d.C_InvalidFrame
  xc_InvalidFrame : ExcC K d.C_InvalidFrame
  te_InvalidFrame : PySem.W.exmOne K (.ref d.C_InvalidFrame) (.ref d.C_InvalidFrame) = some true
  ox_InvalidLooks : OexC K d.C_InvalidLooks
  no_InvalidLooks : PySem.W.findIn K (.ref d.C_InvalidLooks) "at" = some none
  iC_InvalidLooks : PySem.W.findIn K (.ref d.C_InvalidLooks) "__init__" = some (some (.ref d.f_InvalidLooks___init__))
  tI_InvalidLooks : PySem.W.typeIn K (.ref d.f_InvalidLooks___init__) = some (.type "function")
  F_InvalidLooks___init__ : ∃ fd, Fun K "__init__" "InvalidLooks.__init__" s_InvalidLooks___init__ d.f_InvalidLooks___init__ fd
  xf_InvalidLooks : XfC K d.C_InvalidLooks
  xc_InvalidLooks : ExcC K d.C_InvalidLooks
  te_InvalidLooks : PySem.W.exmOne K (.ref d.C_InvalidLooks) (.ref d.C_InvalidLooks) = some true
  ox_InvalidRule : OexC K d.C_InvalidRule
  no_InvalidRule : PySem.W.findIn K (.ref d.C_InvalidRule) "word" = some none
  iC_InvalidRule : PySem.W.findIn K (.ref d.C_InvalidRule) "__init__" = some (some (.ref d.f_InvalidRule___init__))
  tI_InvalidRule : PySem.W.typeIn K (.ref d.f_InvalidRule___init__) = some (.type "function")
  F_InvalidRule___init__ : ∃ fd, Fun K "__init__" "InvalidRule.__init__" s_InvalidRule___init__ d.f_InvalidRule___init__ fd
  xf_InvalidRule : XfC K d.C_InvalidRule
  xc_InvalidRule : ExcC K d.C_InvalidRule
  te_InvalidRule : PySem.W.exmOne K (.ref d.C_InvalidRule) (.ref d.C_InvalidRule) = some true
  ox_InvalidText : OexC K d.C_InvalidText
  no_InvalidText : PySem.W.findIn K (.ref d.C_InvalidText) "at" = some none
  iC_InvalidText : PySem.W.findIn K (.ref d.C_InvalidText) "__init__" = some (some (.ref d.f_InvalidText___init__))
  tI_InvalidText : PySem.W.typeIn K (.ref d.f_InvalidText___init__) = some (.type "function")
  F_InvalidText___init__ : ∃ fd, Fun K "__init__" "InvalidText.__init__" s_InvalidText___init__ d.f_InvalidText___init__ fd
  xf_InvalidText : XfC K d.C_InvalidText
  xc_InvalidText : ExcC K d.C_InvalidText
  te_InvalidText : PySem.W.exmOne K (.ref d.C_InvalidText) (.ref d.C_InvalidText) = some true
  ox_NoMeeting : OexI K d.C_NoMeeting
  no_NoMeeting : PySem.W.findIn K (.ref d.C_NoMeeting) "at" = some none
  iC_NoMeeting : PySem.W.findIn K (.ref d.C_NoMeeting) "__init__" = some (some (.ref d.f_NoMeeting___init__))
  tI_NoMeeting : PySem.W.typeIn K (.ref d.f_NoMeeting___init__) = some (.type "function")
  F_NoMeeting___init__ : ∃ fd, Fun K "__init__" "NoMeeting.__init__" s_NoMeeting___init__ d.f_NoMeeting___init__ fd
  xf_NoMeeting : XfC K d.C_NoMeeting
  xc_NoMeeting : ExcC K d.C_NoMeeting
  te_NoMeeting : PySem.W.exmOne K (.ref d.C_NoMeeting) (.ref d.C_NoMeeting) = some true
  ox_Refused : OexC K d.C_Refused
  no_Refused : PySem.W.findIn K (.ref d.C_Refused) "at" = some none
  iC_Refused : PySem.W.findIn K (.ref d.C_Refused) "__init__" = some (some (.ref d.f_Refused___init__))
  tI_Refused : PySem.W.typeIn K (.ref d.f_Refused___init__) = some (.type "function")
  F_Refused___init__ : ∃ fd, Fun K "__init__" "Refused.__init__" s_Refused___init__ d.f_Refused___init__ fd
  xf_Refused : XfC K d.C_Refused
  xc_Refused : ExcC K d.C_Refused
  te_Refused : PySem.W.exmOne K (.ref d.C_Refused) (.ref d.C_Refused) = some true
  xc_InvalidSlot : ExcC K d.C_InvalidSlot
  ei_InvalidSlot : PySem.W.excIn K d.C_InvalidSlot [.type "ValueError", .type "Exception", .type "BaseException", .type "object"] "ValueError.__new__" = true
  kp_InvalidSlot : PySem.W.keepIn K (.ref d.C_InvalidSlot) = true
  xc_InvalidCommand : ExcC K d.C_InvalidCommand
  ei_InvalidCommand : PySem.W.excIn K d.C_InvalidCommand [.type "ValueError", .type "Exception", .type "BaseException", .type "object"] "ValueError.__new__" = true
  kp_InvalidCommand : PySem.W.keepIn K (.ref d.C_InvalidCommand) = true
  m_DimError : mg "DimError" = some (.ref d.C_DimError)
  m_InvalidCommand : mg "InvalidCommand" = some (.ref d.C_InvalidCommand)
  m_InvalidDay : mg "InvalidDay" = some (.ref d.C_InvalidDay)
  m_InvalidFrame : mg "InvalidFrame" = some (.ref d.C_InvalidFrame)
  m_InvalidLooks : mg "InvalidLooks" = some (.ref d.C_InvalidLooks)
  m_InvalidRule : mg "InvalidRule" = some (.ref d.C_InvalidRule)
  m_InvalidSlot : mg "InvalidSlot" = some (.ref d.C_InvalidSlot)
  m_InvalidText : mg "InvalidText" = some (.ref d.C_InvalidText)
  m_NoMeeting : mg "NoMeeting" = some (.ref d.C_NoMeeting)
  m_Refused : mg "Refused" = some (.ref d.C_Refused)
  kx_InvalidCommand_DimError : PySem.W.kitOne K (.ref d.C_InvalidCommand) (.ref d.C_DimError) = some true
  kx_InvalidCommand_InvalidCommand : PySem.W.kitOne K (.ref d.C_InvalidCommand) (.ref d.C_InvalidCommand) = some true
  kx_InvalidCommand_InvalidDay : PySem.W.kitOne K (.ref d.C_InvalidCommand) (.ref d.C_InvalidDay) = some false
  kx_InvalidCommand_InvalidFrame : PySem.W.kitOne K (.ref d.C_InvalidCommand) (.ref d.C_InvalidFrame) = some false
  kx_InvalidCommand_InvalidLooks : PySem.W.kitOne K (.ref d.C_InvalidCommand) (.ref d.C_InvalidLooks) = some false
  kx_InvalidCommand_InvalidRule : PySem.W.kitOne K (.ref d.C_InvalidCommand) (.ref d.C_InvalidRule) = some false
  kx_InvalidCommand_InvalidSlot : PySem.W.kitOne K (.ref d.C_InvalidCommand) (.ref d.C_InvalidSlot) = some false
  kx_InvalidCommand_InvalidText : PySem.W.kitOne K (.ref d.C_InvalidCommand) (.ref d.C_InvalidText) = some false
  kx_InvalidCommand_NoMeeting : PySem.W.kitOne K (.ref d.C_InvalidCommand) (.ref d.C_NoMeeting) = some false
  kx_InvalidCommand_Refused : PySem.W.kitOne K (.ref d.C_InvalidCommand) (.ref d.C_Refused) = some false
  kx_InvalidDay_DimError : PySem.W.kitOne K (.ref d.C_InvalidDay) (.ref d.C_DimError) = some true
  kx_InvalidDay_InvalidCommand : PySem.W.kitOne K (.ref d.C_InvalidDay) (.ref d.C_InvalidCommand) = some false
  kx_InvalidDay_InvalidDay : PySem.W.kitOne K (.ref d.C_InvalidDay) (.ref d.C_InvalidDay) = some true
  kx_InvalidDay_InvalidFrame : PySem.W.kitOne K (.ref d.C_InvalidDay) (.ref d.C_InvalidFrame) = some false
  kx_InvalidDay_InvalidLooks : PySem.W.kitOne K (.ref d.C_InvalidDay) (.ref d.C_InvalidLooks) = some false
  kx_InvalidDay_InvalidRule : PySem.W.kitOne K (.ref d.C_InvalidDay) (.ref d.C_InvalidRule) = some false
  kx_InvalidDay_InvalidSlot : PySem.W.kitOne K (.ref d.C_InvalidDay) (.ref d.C_InvalidSlot) = some false
  kx_InvalidDay_InvalidText : PySem.W.kitOne K (.ref d.C_InvalidDay) (.ref d.C_InvalidText) = some false
  kx_InvalidDay_NoMeeting : PySem.W.kitOne K (.ref d.C_InvalidDay) (.ref d.C_NoMeeting) = some false
  kx_InvalidDay_Refused : PySem.W.kitOne K (.ref d.C_InvalidDay) (.ref d.C_Refused) = some false
  kx_InvalidFrame_DimError : PySem.W.kitOne K (.ref d.C_InvalidFrame) (.ref d.C_DimError) = some true
  kx_InvalidFrame_InvalidCommand : PySem.W.kitOne K (.ref d.C_InvalidFrame) (.ref d.C_InvalidCommand) = some false
  kx_InvalidFrame_InvalidDay : PySem.W.kitOne K (.ref d.C_InvalidFrame) (.ref d.C_InvalidDay) = some false
  kx_InvalidFrame_InvalidFrame : PySem.W.kitOne K (.ref d.C_InvalidFrame) (.ref d.C_InvalidFrame) = some true
  kx_InvalidFrame_InvalidLooks : PySem.W.kitOne K (.ref d.C_InvalidFrame) (.ref d.C_InvalidLooks) = some false
  kx_InvalidFrame_InvalidRule : PySem.W.kitOne K (.ref d.C_InvalidFrame) (.ref d.C_InvalidRule) = some false
  kx_InvalidFrame_InvalidSlot : PySem.W.kitOne K (.ref d.C_InvalidFrame) (.ref d.C_InvalidSlot) = some false
  kx_InvalidFrame_InvalidText : PySem.W.kitOne K (.ref d.C_InvalidFrame) (.ref d.C_InvalidText) = some false
  kx_InvalidFrame_NoMeeting : PySem.W.kitOne K (.ref d.C_InvalidFrame) (.ref d.C_NoMeeting) = some false
  kx_InvalidFrame_Refused : PySem.W.kitOne K (.ref d.C_InvalidFrame) (.ref d.C_Refused) = some false
  kx_InvalidLooks_DimError : PySem.W.kitOne K (.ref d.C_InvalidLooks) (.ref d.C_DimError) = some true
  kx_InvalidLooks_InvalidCommand : PySem.W.kitOne K (.ref d.C_InvalidLooks) (.ref d.C_InvalidCommand) = some false
  kx_InvalidLooks_InvalidDay : PySem.W.kitOne K (.ref d.C_InvalidLooks) (.ref d.C_InvalidDay) = some false
  kx_InvalidLooks_InvalidFrame : PySem.W.kitOne K (.ref d.C_InvalidLooks) (.ref d.C_InvalidFrame) = some false
  kx_InvalidLooks_InvalidLooks : PySem.W.kitOne K (.ref d.C_InvalidLooks) (.ref d.C_InvalidLooks) = some true
  kx_InvalidLooks_InvalidRule : PySem.W.kitOne K (.ref d.C_InvalidLooks) (.ref d.C_InvalidRule) = some false
  kx_InvalidLooks_InvalidSlot : PySem.W.kitOne K (.ref d.C_InvalidLooks) (.ref d.C_InvalidSlot) = some false
  kx_InvalidLooks_InvalidText : PySem.W.kitOne K (.ref d.C_InvalidLooks) (.ref d.C_InvalidText) = some false
  kx_InvalidLooks_NoMeeting : PySem.W.kitOne K (.ref d.C_InvalidLooks) (.ref d.C_NoMeeting) = some false
  kx_InvalidLooks_Refused : PySem.W.kitOne K (.ref d.C_InvalidLooks) (.ref d.C_Refused) = some false
  kx_InvalidRule_DimError : PySem.W.kitOne K (.ref d.C_InvalidRule) (.ref d.C_DimError) = some true
  kx_InvalidRule_InvalidCommand : PySem.W.kitOne K (.ref d.C_InvalidRule) (.ref d.C_InvalidCommand) = some false
  kx_InvalidRule_InvalidDay : PySem.W.kitOne K (.ref d.C_InvalidRule) (.ref d.C_InvalidDay) = some false
  kx_InvalidRule_InvalidFrame : PySem.W.kitOne K (.ref d.C_InvalidRule) (.ref d.C_InvalidFrame) = some false
  kx_InvalidRule_InvalidLooks : PySem.W.kitOne K (.ref d.C_InvalidRule) (.ref d.C_InvalidLooks) = some false
  kx_InvalidRule_InvalidRule : PySem.W.kitOne K (.ref d.C_InvalidRule) (.ref d.C_InvalidRule) = some true
  kx_InvalidRule_InvalidSlot : PySem.W.kitOne K (.ref d.C_InvalidRule) (.ref d.C_InvalidSlot) = some false
  kx_InvalidRule_InvalidText : PySem.W.kitOne K (.ref d.C_InvalidRule) (.ref d.C_InvalidText) = some false
  kx_InvalidRule_NoMeeting : PySem.W.kitOne K (.ref d.C_InvalidRule) (.ref d.C_NoMeeting) = some false
  kx_InvalidRule_Refused : PySem.W.kitOne K (.ref d.C_InvalidRule) (.ref d.C_Refused) = some false
  kx_InvalidSlot_DimError : PySem.W.kitOne K (.ref d.C_InvalidSlot) (.ref d.C_DimError) = some true
  kx_InvalidSlot_InvalidCommand : PySem.W.kitOne K (.ref d.C_InvalidSlot) (.ref d.C_InvalidCommand) = some false
  kx_InvalidSlot_InvalidDay : PySem.W.kitOne K (.ref d.C_InvalidSlot) (.ref d.C_InvalidDay) = some false
  kx_InvalidSlot_InvalidFrame : PySem.W.kitOne K (.ref d.C_InvalidSlot) (.ref d.C_InvalidFrame) = some false
  kx_InvalidSlot_InvalidLooks : PySem.W.kitOne K (.ref d.C_InvalidSlot) (.ref d.C_InvalidLooks) = some false
  kx_InvalidSlot_InvalidRule : PySem.W.kitOne K (.ref d.C_InvalidSlot) (.ref d.C_InvalidRule) = some false
  kx_InvalidSlot_InvalidSlot : PySem.W.kitOne K (.ref d.C_InvalidSlot) (.ref d.C_InvalidSlot) = some true
  kx_InvalidSlot_InvalidText : PySem.W.kitOne K (.ref d.C_InvalidSlot) (.ref d.C_InvalidText) = some false
  kx_InvalidSlot_NoMeeting : PySem.W.kitOne K (.ref d.C_InvalidSlot) (.ref d.C_NoMeeting) = some false
  kx_InvalidSlot_Refused : PySem.W.kitOne K (.ref d.C_InvalidSlot) (.ref d.C_Refused) = some false
  kx_InvalidText_DimError : PySem.W.kitOne K (.ref d.C_InvalidText) (.ref d.C_DimError) = some true
  kx_InvalidText_InvalidCommand : PySem.W.kitOne K (.ref d.C_InvalidText) (.ref d.C_InvalidCommand) = some false
  kx_InvalidText_InvalidDay : PySem.W.kitOne K (.ref d.C_InvalidText) (.ref d.C_InvalidDay) = some false
  kx_InvalidText_InvalidFrame : PySem.W.kitOne K (.ref d.C_InvalidText) (.ref d.C_InvalidFrame) = some false
  kx_InvalidText_InvalidLooks : PySem.W.kitOne K (.ref d.C_InvalidText) (.ref d.C_InvalidLooks) = some false
  kx_InvalidText_InvalidRule : PySem.W.kitOne K (.ref d.C_InvalidText) (.ref d.C_InvalidRule) = some false
  kx_InvalidText_InvalidSlot : PySem.W.kitOne K (.ref d.C_InvalidText) (.ref d.C_InvalidSlot) = some false
  kx_InvalidText_InvalidText : PySem.W.kitOne K (.ref d.C_InvalidText) (.ref d.C_InvalidText) = some true
  kx_InvalidText_NoMeeting : PySem.W.kitOne K (.ref d.C_InvalidText) (.ref d.C_NoMeeting) = some false
  kx_InvalidText_Refused : PySem.W.kitOne K (.ref d.C_InvalidText) (.ref d.C_Refused) = some false
  kx_NoMeeting_DimError : PySem.W.kitOne K (.ref d.C_NoMeeting) (.ref d.C_DimError) = some false
  kx_NoMeeting_InvalidCommand : PySem.W.kitOne K (.ref d.C_NoMeeting) (.ref d.C_InvalidCommand) = some false
  kx_NoMeeting_InvalidDay : PySem.W.kitOne K (.ref d.C_NoMeeting) (.ref d.C_InvalidDay) = some false
  kx_NoMeeting_InvalidFrame : PySem.W.kitOne K (.ref d.C_NoMeeting) (.ref d.C_InvalidFrame) = some false
  kx_NoMeeting_InvalidLooks : PySem.W.kitOne K (.ref d.C_NoMeeting) (.ref d.C_InvalidLooks) = some false
  kx_NoMeeting_InvalidRule : PySem.W.kitOne K (.ref d.C_NoMeeting) (.ref d.C_InvalidRule) = some false
  kx_NoMeeting_InvalidSlot : PySem.W.kitOne K (.ref d.C_NoMeeting) (.ref d.C_InvalidSlot) = some false
  kx_NoMeeting_InvalidText : PySem.W.kitOne K (.ref d.C_NoMeeting) (.ref d.C_InvalidText) = some false
  kx_NoMeeting_NoMeeting : PySem.W.kitOne K (.ref d.C_NoMeeting) (.ref d.C_NoMeeting) = some true
  kx_NoMeeting_Refused : PySem.W.kitOne K (.ref d.C_NoMeeting) (.ref d.C_Refused) = some false
  kx_Refused_DimError : PySem.W.kitOne K (.ref d.C_Refused) (.ref d.C_DimError) = some true
  kx_Refused_InvalidCommand : PySem.W.kitOne K (.ref d.C_Refused) (.ref d.C_InvalidCommand) = some false
  kx_Refused_InvalidDay : PySem.W.kitOne K (.ref d.C_Refused) (.ref d.C_InvalidDay) = some false
  kx_Refused_InvalidFrame : PySem.W.kitOne K (.ref d.C_Refused) (.ref d.C_InvalidFrame) = some false
  kx_Refused_InvalidLooks : PySem.W.kitOne K (.ref d.C_Refused) (.ref d.C_InvalidLooks) = some false
  kx_Refused_InvalidRule : PySem.W.kitOne K (.ref d.C_Refused) (.ref d.C_InvalidRule) = some false
  kx_Refused_InvalidSlot : PySem.W.kitOne K (.ref d.C_Refused) (.ref d.C_InvalidSlot) = some false
  kx_Refused_InvalidText : PySem.W.kitOne K (.ref d.C_Refused) (.ref d.C_InvalidText) = some false
  kx_Refused_NoMeeting : PySem.W.kitOne K (.ref d.C_Refused) (.ref d.C_NoMeeting) = some false
  kx_Refused_Refused : PySem.W.kitOne K (.ref d.C_Refused) (.ref d.C_Refused) = some true
  kx_InvalidCommand_IndexError : PySem.W.kitOne K (.ref d.C_InvalidCommand) (.type "IndexError") = some false
  kx_InvalidCommand_ValueError : PySem.W.kitOne K (.ref d.C_InvalidCommand) (.type "ValueError") = some true
  kx_InvalidDay_IndexError : PySem.W.kitOne K (.ref d.C_InvalidDay) (.type "IndexError") = some false
  kx_InvalidDay_ValueError : PySem.W.kitOne K (.ref d.C_InvalidDay) (.type "ValueError") = some true
  kx_InvalidFrame_IndexError : PySem.W.kitOne K (.ref d.C_InvalidFrame) (.type "IndexError") = some false
  kx_InvalidFrame_ValueError : PySem.W.kitOne K (.ref d.C_InvalidFrame) (.type "ValueError") = some true
  kx_InvalidLooks_IndexError : PySem.W.kitOne K (.ref d.C_InvalidLooks) (.type "IndexError") = some false
  kx_InvalidLooks_ValueError : PySem.W.kitOne K (.ref d.C_InvalidLooks) (.type "ValueError") = some true
  kx_InvalidRule_IndexError : PySem.W.kitOne K (.ref d.C_InvalidRule) (.type "IndexError") = some false
  kx_InvalidRule_ValueError : PySem.W.kitOne K (.ref d.C_InvalidRule) (.type "ValueError") = some true
  kx_InvalidSlot_IndexError : PySem.W.kitOne K (.ref d.C_InvalidSlot) (.type "IndexError") = some false
  kx_InvalidSlot_ValueError : PySem.W.kitOne K (.ref d.C_InvalidSlot) (.type "ValueError") = some true
  kx_InvalidText_IndexError : PySem.W.kitOne K (.ref d.C_InvalidText) (.type "IndexError") = some false
  kx_InvalidText_ValueError : PySem.W.kitOne K (.ref d.C_InvalidText) (.type "ValueError") = some true
  kx_NoMeeting_IndexError : PySem.W.kitOne K (.ref d.C_NoMeeting) (.type "IndexError") = some true
  kx_NoMeeting_ValueError : PySem.W.kitOne K (.ref d.C_NoMeeting) (.type "ValueError") = some false
  kx_Refused_IndexError : PySem.W.kitOne K (.ref d.C_Refused) (.type "IndexError") = some false
  kx_Refused_ValueError : PySem.W.kitOne K (.ref d.C_Refused) (.type "ValueError") = some true
  b_IndexError : mg "IndexError" = none
  b_ValueError : mg "ValueError" = none
  b_abs : mg "abs" = none
  b_enumerate : mg "enumerate" = none
  b_int : mg "int" = none
  b_isinstance : mg "isinstance" = none
  b_len : mg "len" = none
  b_max : mg "max" = none
  b_min : mg "min" = none
  b_range : mg "range" = none
  b_repr : mg "repr" = none
  b_tuple : mg "tuple" = none
abbrev cl (d : Ad) : DL.Cl := ⟨0, 0, 0, d.C_DimError, d.C_InvalidDay, d.C_InvalidRule, d.C_InvalidFrame, d.C_InvalidText, d.C_InvalidLooks, d.C_InvalidSlot, d.C_InvalidCommand, d.C_Refused, d.C_NoMeeting, 0, 0, 0, 0, 0⟩
section
variable {K : PySem.W.Frag} {mg : Str → Option Value} {d : Ad}
open DL
abbrev CS5 (d : Ad) : List (Addr × Str) := [(d.C_InvalidDay, "word"), (d.C_InvalidRule, "word"), (d.C_InvalidFrame, "word"), (d.C_InvalidText, "at"), (d.C_InvalidLooks, "at")]
abbrev CS2 (d : Ad) : List (Addr × Str) := [(d.C_Refused, "at"), (d.C_NoMeeting, "at")]
abbrev CS3 (d : Ad) : List (Addr × Str) := [(d.C_InvalidDay, "word"), (d.C_InvalidRule, "word"), (d.C_InvalidFrame, "word")]
abbrev CS4 (d : Ad) : List (Addr × Str) := [(d.C_InvalidText, "at"), (d.C_InvalidLooks, "at"), (d.C_Refused, "at"), (d.C_NoMeeting, "at")]
abbrev CS (d : Ad) : List (Addr × Str) := [(d.C_InvalidDay, "word"), (d.C_InvalidRule, "word"), (d.C_InvalidFrame, "word"), (d.C_InvalidText, "at"), (d.C_InvalidLooks, "at"), (d.C_Refused, "at"), (d.C_NoMeeting, "at")]
abbrev CA (d : Ad) : List Addr := [d.C_InvalidDay, d.C_InvalidRule, d.C_InvalidFrame, d.C_InvalidText, d.C_InvalidLooks, d.C_Refused, d.C_NoMeeting, d.C_InvalidSlot, d.C_InvalidCommand]
theorem fk3 (d : Ad) : ∀ c ∈ CS3 d, c.2 = "word" := by
  intro c h
  simp only [List.mem_cons, List.not_mem_nil, or_false] at h
  rcases h with rfl | rfl | rfl <;> rfl
theorem fk4 (d : Ad) : ∀ c ∈ CS4 d, c.2 = "at" := by
  intro c h
  simp only [List.mem_cons, List.not_mem_nil, or_false] at h
  rcases h with rfl | rfl | rfl | rfl <;> rfl
theorem csx (T : Txt K mg d) : ∀ c ∈ CS d, XfC K c.1 ∧ PySem.W.findIn K (.ref c.1) c.2 = some none := by
  intro c h
  simp only [List.mem_cons, List.not_mem_nil, or_false] at h
  rcases h with rfl | rfl | rfl | rfl | rfl | rfl | rfl
  · exact ⟨T.xf_InvalidDay, T.no_InvalidDay⟩
  · exact ⟨T.xf_InvalidRule, T.no_InvalidRule⟩
  · exact ⟨T.xf_InvalidFrame, T.no_InvalidFrame⟩
  · exact ⟨T.xf_InvalidText, T.no_InvalidText⟩
  · exact ⟨T.xf_InvalidLooks, T.no_InvalidLooks⟩
  · exact ⟨T.xf_Refused, T.no_Refused⟩
  · exact ⟨T.xf_NoMeeting, T.no_NoMeeting⟩
theorem efo (T : Txt K mg d) : EF K ((CS d).map (·.1) ++ [d.C_InvalidSlot, d.C_InvalidCommand]) d.C_DimError where
  len := rfl
  exc := by
    intro C h
    have h : C ∈ CA d := h
    simp only [List.mem_cons, List.not_mem_nil, or_false] at h
    rcases h with rfl | rfl | rfl | rfl | rfl | rfl | rfl | rfl | rfl
    · exact T.xc_InvalidDay
    · exact T.xc_InvalidRule
    · exact T.xc_InvalidFrame
    · exact T.xc_InvalidText
    · exact T.xc_InvalidLooks
    · exact T.xc_Refused
    · exact T.xc_NoMeeting
    · exact T.xc_InvalidSlot
    · exact T.xc_InvalidCommand
  kit := fun i C h => match i, h with
    | 0, h => by cases h; exact ⟨T.kx_InvalidDay_InvalidDay, T.kx_InvalidDay_InvalidRule, T.kx_InvalidDay_InvalidFrame, T.kx_InvalidDay_InvalidText, T.kx_InvalidDay_InvalidLooks, T.kx_InvalidDay_Refused, T.kx_InvalidDay_NoMeeting, T.kx_InvalidDay_InvalidSlot, T.kx_InvalidDay_InvalidCommand, trivial⟩
    | 1, h => by cases h; exact ⟨T.kx_InvalidRule_InvalidDay, T.kx_InvalidRule_InvalidRule, T.kx_InvalidRule_InvalidFrame, T.kx_InvalidRule_InvalidText, T.kx_InvalidRule_InvalidLooks, T.kx_InvalidRule_Refused, T.kx_InvalidRule_NoMeeting, T.kx_InvalidRule_InvalidSlot, T.kx_InvalidRule_InvalidCommand, trivial⟩
    | 2, h => by cases h; exact ⟨T.kx_InvalidFrame_InvalidDay, T.kx_InvalidFrame_InvalidRule, T.kx_InvalidFrame_InvalidFrame, T.kx_InvalidFrame_InvalidText, T.kx_InvalidFrame_InvalidLooks, T.kx_InvalidFrame_Refused, T.kx_InvalidFrame_NoMeeting, T.kx_InvalidFrame_InvalidSlot, T.kx_InvalidFrame_InvalidCommand, trivial⟩
    | 3, h => by cases h; exact ⟨T.kx_InvalidText_InvalidDay, T.kx_InvalidText_InvalidRule, T.kx_InvalidText_InvalidFrame, T.kx_InvalidText_InvalidText, T.kx_InvalidText_InvalidLooks, T.kx_InvalidText_Refused, T.kx_InvalidText_NoMeeting, T.kx_InvalidText_InvalidSlot, T.kx_InvalidText_InvalidCommand, trivial⟩
    | 4, h => by cases h; exact ⟨T.kx_InvalidLooks_InvalidDay, T.kx_InvalidLooks_InvalidRule, T.kx_InvalidLooks_InvalidFrame, T.kx_InvalidLooks_InvalidText, T.kx_InvalidLooks_InvalidLooks, T.kx_InvalidLooks_Refused, T.kx_InvalidLooks_NoMeeting, T.kx_InvalidLooks_InvalidSlot, T.kx_InvalidLooks_InvalidCommand, trivial⟩
    | 5, h => by cases h; exact ⟨T.kx_Refused_InvalidDay, T.kx_Refused_InvalidRule, T.kx_Refused_InvalidFrame, T.kx_Refused_InvalidText, T.kx_Refused_InvalidLooks, T.kx_Refused_Refused, T.kx_Refused_NoMeeting, T.kx_Refused_InvalidSlot, T.kx_Refused_InvalidCommand, trivial⟩
    | 6, h => by cases h; exact ⟨T.kx_NoMeeting_InvalidDay, T.kx_NoMeeting_InvalidRule, T.kx_NoMeeting_InvalidFrame, T.kx_NoMeeting_InvalidText, T.kx_NoMeeting_InvalidLooks, T.kx_NoMeeting_Refused, T.kx_NoMeeting_NoMeeting, T.kx_NoMeeting_InvalidSlot, T.kx_NoMeeting_InvalidCommand, trivial⟩
    | 7, h => by cases h; exact ⟨T.kx_InvalidSlot_InvalidDay, T.kx_InvalidSlot_InvalidRule, T.kx_InvalidSlot_InvalidFrame, T.kx_InvalidSlot_InvalidText, T.kx_InvalidSlot_InvalidLooks, T.kx_InvalidSlot_Refused, T.kx_InvalidSlot_NoMeeting, T.kx_InvalidSlot_InvalidSlot, T.kx_InvalidSlot_InvalidCommand, trivial⟩
    | 8, h => by cases h; exact ⟨T.kx_InvalidCommand_InvalidDay, T.kx_InvalidCommand_InvalidRule, T.kx_InvalidCommand_InvalidFrame, T.kx_InvalidCommand_InvalidText, T.kx_InvalidCommand_InvalidLooks, T.kx_InvalidCommand_Refused, T.kx_InvalidCommand_NoMeeting, T.kx_InvalidCommand_InvalidSlot, T.kx_InvalidCommand_InvalidCommand, trivial⟩
    | i + 9, h => by simp at h
  dim := fun i C h => match i, h with
    | 0, h => by cases h; exact T.kx_InvalidDay_DimError
    | 1, h => by cases h; exact T.kx_InvalidRule_DimError
    | 2, h => by cases h; exact T.kx_InvalidFrame_DimError
    | 3, h => by cases h; exact T.kx_InvalidText_DimError
    | 4, h => by cases h; exact T.kx_InvalidLooks_DimError
    | 5, h => by cases h; exact T.kx_Refused_DimError
    | 6, h => by cases h; exact T.kx_NoMeeting_DimError
    | 7, h => by cases h; exact T.kx_InvalidSlot_DimError
    | 8, h => by cases h; exact T.kx_InvalidCommand_DimError
    | i + 9, h => by simp at h
  val := fun i C h => match i, h with
    | 0, h => by cases h; exact T.kx_InvalidDay_ValueError
    | 1, h => by cases h; exact T.kx_InvalidRule_ValueError
    | 2, h => by cases h; exact T.kx_InvalidFrame_ValueError
    | 3, h => by cases h; exact T.kx_InvalidText_ValueError
    | 4, h => by cases h; exact T.kx_InvalidLooks_ValueError
    | 5, h => by cases h; exact T.kx_Refused_ValueError
    | 6, h => by cases h; exact T.kx_NoMeeting_ValueError
    | 7, h => by cases h; exact T.kx_InvalidSlot_ValueError
    | 8, h => by cases h; exact T.kx_InvalidCommand_ValueError
    | i + 9, h => by simp at h
  ind := fun i C h => match i, h with
    | 0, h => by cases h; exact T.kx_InvalidDay_IndexError
    | 1, h => by cases h; exact T.kx_InvalidRule_IndexError
    | 2, h => by cases h; exact T.kx_InvalidFrame_IndexError
    | 3, h => by cases h; exact T.kx_InvalidText_IndexError
    | 4, h => by cases h; exact T.kx_InvalidLooks_IndexError
    | 5, h => by cases h; exact T.kx_Refused_IndexError
    | 6, h => by cases h; exact T.kx_NoMeeting_IndexError
    | 7, h => by cases h; exact T.kx_InvalidSlot_IndexError
    | 8, h => by cases h; exact T.kx_InvalidCommand_IndexError
    | i + 9, h => by simp at h
end
end DD
set_option Elab.async false
set_option linter.all false
set_option maxRecDepth 100000
set_option maxHeartbeats 4000000
namespace DL
open PySem PySem.Spec PyProof.Rows L2 DD
noncomputable def D_is_integer (c : Cl) : En → SR :=
  (sRet (dAnd (dIsi (kitD [c.Day, c.Rule, c.Frame]) [c.Day, c.Rule, c.Frame] [(.type "int")] (dVar 0)) (dNot (dIsi (kitD [c.Day, c.Rule, c.Frame]) [c.Day, c.Rule, c.Frame] [(.type "bool")] (dVar 0)))))
noncomputable def D__law_seed (c : Cl) : En → SR :=
  (sSeq (sSet 2 (dBin opAdd (dBin opMul (dC (.int 8831)) (dVar 1)) (dC (.int 101)))) (sSeq (sIf (dTest (dBin opLt (dVar 1) (dCB fLen (aCons (dVar 0) aNil)))) (sSet 2 (dCB fAbs (aCons (dBin opIx (dVar 0) (dVar 1)) aNil))) (sIf (dTest (dBin opGt (dCB fLen (aCons (dVar 0) aNil)) (dC (.int 0)))) (sSet 2 (dBin opAdd (dVar 2) (dBin opMul (dBin opMod (dCB fInt (aCons (dCB fAbs (aCons (dBin opIx (dVar 0) (dBin opMod (dCB fInt (aCons (dVar 1) aNil)) (dCB fLen (aCons (dVar 0) aNil)))) aNil)) aNil)) (dC (.int 2147483629))) (dC (.int 40093))))) sNext)) (sRet (dLst (aCons (dIfE (dTest (dBin opGe (dVar 2) (dBin opPow (dC (.int 10)) (dC (.int 18))))) (dVar 2) (dC (.int 0))) (aCons (dBin opAdd (dBin opMod (dCB fInt (aCons (dBin opAdd (dBin opMul (dBin opMod (dCB fInt (aCons (dVar 2) aNil)) (dC (.int 2147483629))) (dC (.int 48271))) (dBin opMul (dC (.int 37021)) (dVar 1))) aNil)) (dC (.int 2147483629))) (dC (.int 1))) aNil))))))
noncomputable def D__law_choose (c : Cl) : En → SR :=
  (sSeq (sIf (dTest (dBin opGt (dBin opIx (dVar 0) (dC (.int 0))) (dC (.int 0)))) (sSeq (sSet 3 (dBin opMod (dCB fInt (aCons (dBin opIx (dVar 0) (dC (.int 0))) aNil)) (dVar 1))) (sSeq (sPut 0 (dBin opFdiv (dBin opIx (dVar 0) (dC (.int 0))) (dVar 1)) (dC (.int 0))) (sRet (dVar 3)))) sNext) (sSeq (sSet 2 (dBin opMod (dCB fInt (aCons (dBin opAdd (dBin opMul (dBin opIx (dVar 0) (dC (.int 1))) (dC (.int 40014))) (dC (.int 71))) aNil)) (dC (.int 2147483563)))) (sSeq (sPut 0 (dBin opAdd (dBin opMod (dCB fInt (aCons (dBin opAdd (dBin opMul (dVar 2) (dC (.int 40692))) (dC (.int 4603))) aNil)) (dC (.int 2147483629))) (dC (.int 1))) (dC (.int 1))) (sRet (dBin opMod (dCB fInt (aCons (dBin opFdiv (dBin opAdd (dBin opMul (dVar 2) (dC (.int 2147483647))) (dBin opIx (dVar 0) (dC (.int 1)))) (dC (.int 8191))) aNil)) (dVar 1))))))
noncomputable def D__law_one_of (c : Cl) : En → SR :=
  (sRet (dBin opIx (dVar 1) (dLend 2 4 (D__law_choose c) 0 (aCons (dCB fLen (aCons (dVar 1) aNil)) aNil))))
noncomputable def D__law_leaf (c : Cl) : En → SR :=
  (sSeq (sSet 1 (dLst (aCons (dC .non) (aCons (dC (.bl true)) (aCons (dC (.bl false)) (aCons (dC (.int 0)) (aCons (dC (.int 1)) (aCons (dBin opSub (dC (.int 0)) (dC (.int 1))) (aCons (dC (.int 2)) (aCons (dC (.int 3)) (aCons (dC (.str "")) (aCons (dC (.str "busy")) (aCons (dC (.str "private")) (aCons (dC (.str "one")) (aCons (dC (.str "2-5")) aNil))))))))))))))) (sRet (dLend 2 2 (D__law_one_of c) 0 (aCons (dBin opAdd (dVar 1) (dLst (aCons (dC (.str "-")) (aCons (dC (.str "12: -")) aNil)))) aNil))))
noncomputable def D__law_any_r (c : Cl) (rec : En → SR) : En → SR :=
  (sSeq (sSet 2 (dIfE (dTest (dBin opGt (dVar 1) (dC (.int 0)))) (dLend 2 4 (D__law_choose c) 0 (aCons (dC (.int 6)) aNil)) (dC (.int 9)))) (sSeq (sIf (dTest (dBin opGt (dVar 2) (dC (.int 1)))) (sRet (dLend 1 2 (D__law_leaf c) 0 aNil)) sNext) (sSeq (sSet 3 (dLc (dRng1 (dLend 2 4 (D__law_choose c) 0 (aCons (dC (.int 4)) aNil))) [4] (uName 4) tdYes (dLend 2 5 rec 0 (aCons (dBin opSub (dVar 1) (dC (.int 1))) aNil)))) (sRet (dIfE (dTest (dBin opEq (dVar 2) (dC (.int 0)))) (dCB fTuple (aCons (dVar 3) aNil)) (dVar 3))))))
noncomputable def D__law_any_n (c : Cl) : Nat → En → SR
  | 0 => fun _ => .stuck
  | n + 1 => D__law_any_r c (D__law_any_n c n)
noncomputable def D__law_any (c : Cl) : En → SR := D__law_any_n c 9
end DL
set_option Elab.async false
set_option linter.all false
set_option maxRecDepth 100000
set_option maxHeartbeats 4000000
namespace DL
open PySem PySem.Spec PyProof.Rows L2 DD
end DL
set_option Elab.async false
set_option linter.all false
set_option maxRecDepth 100000
set_option maxHeartbeats 4000000
namespace DL
open PySem PySem.Spec PyProof.Rows L2 DD
noncomputable def D_law_b1 (c : Cl) : En → SR :=
  (sSeq (sSet 4 (dLend 2 5 (D__law_any c) 2 (aCons (dC (.int 5)) aNil))) sErr)
noncomputable def D_law_b2 (c : Cl) : En → SR :=
  (sSeq (sSet 2 (dCall 2 3 (D__law_seed c) (aCons (dVar 0) (aCons (dVar 1) aNil)))) (sFor (dRng1 (dC (.int 6))) (uName 3) (D_law_b1 c)))
noncomputable def D_law (c : Cl) : En → SR :=
  (sSeq (sFor (dRng1 (dCB fMax (aCons (dC (.int 2)) (aCons (dCB fMin (aCons (dC (.int 5)) (aCons (dCB fLen (aCons (dVar 0) aNil)) aNil))) aNil)))) (uName 1) (D_law_b2 c)) (sRet (dC (.bl true))))
end DL
set_option Elab.async false
set_option linter.all false
set_option maxRecDepth 100000
set_option maxHeartbeats 4000000
namespace DD
open PySem PySem.Spec PyProof.Rows L2 StX ClX DL
section
variable {P : Program} {w : World} {K : PySem.W.Frag} {mg : Str → Option Value} {base : Heap} {d : Ad}
theorem rs_InvalidDay (T : Txt K mg d) : ExR P w K mg base d.C_InvalidDay "word" := by
  obtain ⟨fd, F⟩ := T.F_InvalidDay___init__
  exact ⟨_, fd, _, T.ox_InvalidDay, T.no_InvalidDay, T.iC_InvalidDay, T.tI_InvalidDay, ok_exI F sc_InvalidDay___init__ rfl (fun cdv A outer s H E => pss_one (ps_ost (pv 0) (pv 1))), F.binds fun _ _ _ _ _ _ us hl => match us, hl with | [_, _], _ => rfl⟩
theorem rs_InvalidFrame (T : Txt K mg d) : ExR P w K mg base d.C_InvalidFrame "word" := by
  obtain ⟨fd, F⟩ := T.F_InvalidFrame___init__
  exact ⟨_, fd, _, T.ox_InvalidFrame, T.no_InvalidFrame, T.iC_InvalidFrame, T.tI_InvalidFrame, ok_exI F sc_InvalidFrame___init__ rfl (fun cdv A outer s H E => pss_one (ps_ost (pv 0) (pv 1))), F.binds fun _ _ _ _ _ _ us hl => match us, hl with | [_, _], _ => rfl⟩
theorem rs_InvalidLooks (T : Txt K mg d) : ExR P w K mg base d.C_InvalidLooks "at" := by
  obtain ⟨fd, F⟩ := T.F_InvalidLooks___init__
  exact ⟨_, fd, _, T.ox_InvalidLooks, T.no_InvalidLooks, T.iC_InvalidLooks, T.tI_InvalidLooks, ok_exI F sc_InvalidLooks___init__ rfl (fun cdv A outer s H E => pss_one (ps_ost (pv 0) (pv 1))), F.binds fun _ _ _ _ _ _ us hl => match us, hl with | [_, _], _ => rfl⟩
theorem rs_InvalidRule (T : Txt K mg d) : ExR P w K mg base d.C_InvalidRule "word" := by
  obtain ⟨fd, F⟩ := T.F_InvalidRule___init__
  exact ⟨_, fd, _, T.ox_InvalidRule, T.no_InvalidRule, T.iC_InvalidRule, T.tI_InvalidRule, ok_exI F sc_InvalidRule___init__ rfl (fun cdv A outer s H E => pss_one (ps_ost (pv 0) (pv 1))), F.binds fun _ _ _ _ _ _ us hl => match us, hl with | [_, _], _ => rfl⟩
theorem rs_InvalidText (T : Txt K mg d) : ExR P w K mg base d.C_InvalidText "at" := by
  obtain ⟨fd, F⟩ := T.F_InvalidText___init__
  exact ⟨_, fd, _, T.ox_InvalidText, T.no_InvalidText, T.iC_InvalidText, T.tI_InvalidText, ok_exI F sc_InvalidText___init__ rfl (fun cdv A outer s H E => pss_one (ps_ost (pv 0) (pv 1))), F.binds fun _ _ _ _ _ _ us hl => match us, hl with | [_, _], _ => rfl⟩
theorem rs_NoMeeting (T : Txt K mg d) : ExRI P w K mg base d.C_NoMeeting "at" := by
  obtain ⟨fd, F⟩ := T.F_NoMeeting___init__
  exact ⟨_, fd, _, T.ox_NoMeeting, T.no_NoMeeting, T.iC_NoMeeting, T.tI_NoMeeting, ok_exIE F sc_NoMeeting___init__ rfl (fun cdv A outer s H E => pss_one (ps_ostI (pv 0) (pv 1))), F.binds fun _ _ _ _ _ _ us hl => match us, hl with | [_, _], _ => rfl⟩
theorem rs_Refused (T : Txt K mg d) : ExR P w K mg base d.C_Refused "at" := by
  obtain ⟨fd, F⟩ := T.F_Refused___init__
  exact ⟨_, fd, _, T.ox_Refused, T.no_Refused, T.iC_Refused, T.tI_Refused, ok_exI F sc_Refused___init__ rfl (fun cdv A outer s H E => pss_one (ps_ost (pv 0) (pv 1))), F.binds fun _ _ _ _ _ _ us hl => match us, hl with | [_, _], _ => rfl⟩
theorem ok__law_choose (T : Txt K mg d) : FnR P w K mg base CX0 1 d.f__law_choose (spD0 K 2 4 (D__law_choose (cl d))) :=
  mkDz T.F__law_choose sc__law_choose (by decide) (fun _ _ _ _ _ _ us hl => match us, hl with | [_, _], _ => rfl) (fun cdv A outer s H E hr => by
    have hu := hr.units
    have hu5 := room5 hr
    exact ⟨_, (pss_cons (ps_if (pt_cmpR op_gt (pe_ix (ix_3 (K := K)) (pv 0) pe_int (fun _ _ => rfl)) pe_int (nomark _)) (pss_cons (ps_set (i := 3) sc__law_choose.nd rfl (by first | exact Or.inl rfl | exact Or.inr rfl) (pe_op op_mod (pe_callTy call_int2 rfl T.b_int (by decide +kernel) (pa_cons (pe_ix (ix_3 (K := K)) (pv 0) pe_int (fun _ _ => rfl)) pa_nil)) (pv 1))) (pss_cons (ps_asg (pe_op op_fdiv (pe_ix (ix_3 (K := K)) (pv 0) pe_int (fun _ _ => rfl)) (pv 1)) (pg_sub (pv 0) pe_int set_list)) (pss_one (ps_ret (pv 3))))) pss_nil) (pss_cons (ps_set (i := 2) sc__law_choose.nd rfl (by first | exact Or.inl rfl | exact Or.inr rfl) (pe_op op_mod (pe_callTy call_int2 rfl T.b_int (by decide +kernel) (pa_cons (pe_op (op_add4 (K := K)) (pe_op op_mul (pe_ix (ix_3 (K := K)) (pv 0) pe_int (fun _ _ => rfl)) pe_int) pe_int) pa_nil)) pe_int)) (pss_cons (ps_asg (pe_op (op_add4 (K := K)) (pe_op op_mod (pe_callTy call_int2 rfl T.b_int (by decide +kernel) (pa_cons (pe_op (op_add4 (K := K)) (pe_op op_mul (pv 2) pe_int) pe_int) pa_nil)) pe_int) pe_int) (pg_sub (pv 0) pe_int set_list)) (pss_one (ps_ret (pe_op op_mod (pe_callTy call_int2 rfl T.b_int (by decide +kernel) (pa_cons (pe_op op_fdiv (pe_op (op_add4 (K := K)) (pe_op op_mul (pv 2) pe_int) (pe_ix (ix_3 (K := K)) (pv 0) pe_int (fun _ _ => rfl))) pe_int) pa_nil)) (pv 1))))))), (L_seq (L_if (L_test (L_bin S_gt (L_bin S_ix (L_var (i := 0)) L_int) L_int)) (L_seq (L_set (L_bin S_mod (L_cb C_int (A_cons (L_bin S_ix (L_var (i := 0)) L_int) A_nil)) (L_var (i := 1)))) (L_seq (L_put (i := 0) (L_bin S_fdiv (L_bin S_ix (L_var (i := 0)) L_int) (L_var (i := 1))) L_int) (L_ret (L_var (i := 3))))) L_next) (L_seq (L_set (L_bin S_mod (L_cb C_int (A_cons (L_bin S_add4 (L_bin S_mul (L_bin S_ix (L_var (i := 0)) L_int) L_int) L_int) A_nil)) L_int)) (L_seq (L_put (i := 0) (L_bin S_add4 (L_bin S_mod (L_cb C_int (A_cons (L_bin S_add4 (L_bin S_mul (L_var (i := 2)) L_int) L_int) A_nil)) L_int) L_int) L_int) (L_ret (L_bin S_mod (L_cb C_int (A_cons (L_bin S_fdiv (L_bin S_add4 (L_bin S_mul (L_var (i := 2)) L_int) (L_bin S_ix (L_var (i := 0)) L_int)) L_int) A_nil)) (L_var (i := 1)))))))⟩)
theorem ok__law_one_of (T : Txt K mg d) : FnR P w K mg base CX0 2 d.f__law_one_of (spD0 K 2 2 (D__law_one_of (cl d))) :=
  mkDz T.F__law_one_of sc__law_one_of (by decide) (fun _ _ _ _ _ _ us hl => match us, hl with | [_, _], _ => rfl) (fun cdv A outer s H E hr => by
    have hu := hr.units
    have hu5 := room5 hr
    exact ⟨_, (pss_one (ps_ret (pe_ix (ix_3 (K := K)) (pv 1) (pe_callR (sp := spD0 K 2 4 (D__law_choose (cl d))) (ok__law_choose T) (hr.mono (by decide)) rfl T.m__law_choose T.k__law_choose pass0 (pa_cons (pv 0) (pa_cons (pe_callB (call_len2 (K := K)) (by rfl) T.b_len PySem.boot_len (pa_cons (pv 1) pa_nil)) pa_nil))) (fun _ _ => rfl)))), (L_ret (L_bin S_ix (L_var (i := 1)) (Lz_lend (i := 0) (A_cons (L_cb C_len (A_cons (L_var (i := 1)) A_nil)) A_nil))))⟩)
end
end DD
set_option Elab.async false
set_option linter.all false
set_option maxRecDepth 100000
set_option maxHeartbeats 4000000
namespace DD
open PySem PySem.Spec PyProof.Rows L2 StX ClX DL
section
variable {P : Program} {w : World} {K : PySem.W.Frag} {mg : Str → Option Value} {base : Heap} {d : Ad}
theorem ok__law_leaf (T : Txt K mg d) : FnR P w K mg base CX0 3 d.f__law_leaf (spD0 K 1 2 (D__law_leaf (cl d))) :=
  mkDz T.F__law_leaf sc__law_leaf (by decide) (fun _ _ _ _ _ _ us hl => match us, hl with | [_], _ => rfl) (fun cdv A outer s H E hr => by
    have hu := hr.units
    have hu5 := room5 hr
    exact ⟨_, (pss_cons (ps_set (i := 1) sc__law_leaf.nd rfl (by first | exact Or.inl rfl | exact Or.inr rfl) (pe_lst (pa_cons pe_non (pa_cons pe_bl (pa_cons pe_bl (pa_cons pe_int (pa_cons pe_int (pa_cons (pe_op op_sub pe_int pe_int) (pa_cons pe_int (pa_cons pe_int (pa_cons pe_str (pa_cons pe_str (pa_cons pe_str (pa_cons pe_str (pa_cons pe_str pa_nil))))))))))))))) (pss_one (ps_ret (pe_callR (sp := spD0 K 2 2 (D__law_one_of (cl d))) (ok__law_one_of T) (hr.mono (by decide)) rfl T.m__law_one_of T.k__law_one_of pass0 (pa_cons (pv 0) (pa_cons (pe_op (op_add4 (K := K)) (pv 1) (pe_lst (pa_cons pe_str (pa_cons pe_str pa_nil)))) pa_nil)))))), (L_seq (L_set (L_lst (A_cons L_non (A_cons L_bl (A_cons L_bl (A_cons L_int (A_cons L_int (A_cons (L_bin S_sub L_int L_int) (A_cons L_int (A_cons L_int (A_cons L_str (A_cons L_str (A_cons L_str (A_cons L_str (A_cons L_str A_nil))))))))))))))) (L_ret (Lz_lend (i := 0) (A_cons (L_bin S_add4 (L_var (i := 1)) (L_lst (A_cons L_str (A_cons L_str A_nil)))) A_nil))))⟩)
theorem ok__law_any_n (T : Txt K mg d) : ∀ n, FnR P w K mg base CX0 (4 + n) d.f__law_any (spD0 K 2 5 (D__law_any_n (cl d) n))
  | 0 => fnR_stuck
  | n + 1 => by
    have hR := ok__law_any_n T n
    exact (mkDz (T := D__law_any_r (cl d) (D__law_any_n (cl d) n)) T.F__law_any sc__law_any (by decide) (fun _ _ _ _ _ _ us hl => match us, hl with | [_, _], _ => rfl) (fun cdv A outer s H E hr => by
      have hu := hr.units
      have hu5 := room5 hr
      exact ⟨_, (pss_cons (ps_set (i := 2) sc__law_any.nd rfl (by first | exact Or.inl rfl | exact Or.inr rfl) (pe_ifExp (pt_cmpR op_gt (pv 1) pe_int (nomark _)) (pe_callR (sp := spD0 K 2 4 (D__law_choose (cl d))) (ok__law_choose T) (hr.mono (by omega)) rfl T.m__law_choose T.k__law_choose pass0 (pa_cons (pv 0) (pa_cons pe_int pa_nil))) pe_int)) (pss_cons (ps_if (pt_cmpR op_gt (pv 2) pe_int (nomark _)) (pss_one (ps_ret (pe_callR (sp := spD0 K 1 2 (D__law_leaf (cl d))) (ok__law_leaf T) (hr.mono (by omega)) rfl T.m__law_leaf T.k__law_leaf pass0 (pa_cons (pv 0) pa_nil)))) pss_nil) (pss_cons (ps_setLc (i := 3) (own := [("_law_turn", 4)]) rfl sc__law_any.nd rfl rfl (by rfl) (pi_range1 rfl T.b_range (pa_cons (pe_callR (sp := spD0 K 2 4 (D__law_choose (cl d))) (ok__law_choose T) (hr.mono (by omega)) rfl T.m__law_choose T.k__law_choose pass0 (pa_cons (pv 0) (pa_cons pe_int pa_nil))) pa_nil)) (blkOk_by (N := ["_law_box", "_law_deep", "_law_form", "_law_found", "_law_turn"]) (sc := defScope s__law_any) (by decide +kernel)) (fun _ _ _ _ _ => (pg_name (i := 4) sc__law_any.nd rfl (by first | exact Or.inl rfl | exact Or.inr rfl))) (fun _ _ _ _ _ => pts_nil) (fun _ _ _ _ _ => (pe_callR (sp := spD0 K 2 5 (D__law_any_n (cl d) n)) hR (hr.mono (by omega)) rfl T.m__law_any T.k__law_any pass0 (pa_cons (pv 0) (pa_cons (pe_op op_sub (pv 1) pe_int) pa_nil))))) (pss_one (ps_ret (pe_ifExp (pt_cmpR (op_eq2 (K := K) hu) (pv 2) pe_int (nomark _)) (pe_callTy call_tuple_of rfl T.b_tuple (by decide +kernel) (pa_cons (pv 3) pa_nil)) (pv 3))))))), (L_seq (L_set (L_ifE (L_test (L_bin S_gt (L_var (i := 1)) L_int)) (Lz_lend (i := 0) (A_cons L_int A_nil)) L_int)) (L_seq (L_if (L_test (L_bin S_gt (L_var (i := 2)) L_int)) (L_ret (Lz_lend (i := 0) A_nil)) L_next) (L_seq (L_set (L_lc (Et := E0) (Ea := E0) (I_rng1 (Lz_lend (i := 0) (A_cons L_int A_nil))) (U_name (by decide)) L_yes (Lz_lend (i := 0) (A_cons (L_bin S_sub (L_var (i := 1)) L_int) A_nil)))) (L_ret (L_ifE (L_test (L_bin S_eq (L_var (i := 2)) L_int)) (L_cb C_tuple (A_cons (L_var (i := 3)) A_nil)) (L_var (i := 3)))))))⟩) : FnR P w K mg base CX0 (4 + n + 1) d.f__law_any (spD0 K 2 5 (D__law_any_r (cl d) (D__law_any_n (cl d) n))))
theorem ok__law_any (T : Txt K mg d) : FnR P w K mg base CX0 13 d.f__law_any (spD0 K 2 5 (D__law_any (cl d))) := ok__law_any_n T 9
theorem ok__law_kept (T : Txt K mg d) : FnR P w K mg base CX0 1 d.f__law_kept (spKept K (CS d)) :=
  mkDx T.F__law_kept sc__law_kept (fun vs H Q E h => by
    obtain ⟨_, _, _, rfl, _⟩ := h
    rfl) (fun _ _ _ _ _ _ us hl => match us, hl with | [_], _ => rfl) (fun cdv A outer s H E hr => by
    have hu := hr.units
    have hu5 := room5 hr
    exact ⟨_, (pss_one (ps_ret (pe_op (op_add4 (K := K)) (pe_lc (own := [("_law_error", 1)]) rfl sc__law_kept.nd (pi_seq (K := K) (pe_slice (sl_3 (K := K)) (pv 0) po_none (po_some pe_int))) (blkOk_by (N := ["_law_errors", "_law_error"]) (sc := defScope s__law_kept) (by decide +kernel)) (fun _ _ _ _ _ => (pg_name (i := 1) sc__law_kept.nd rfl (by first | exact Or.inl rfl | exact Or.inr rfl))) (fun _ _ _ _ _ => pts_nil) (fun _ _ _ _ _ => (pe_xv (pv 1)))) (pe_lc (own := [("_law_error", 1)]) rfl sc__law_kept.nd (pi_seq (K := K) (pe_slice (sl_3 (K := K)) (pv 0) (po_some pe_int) po_none)) (blkOk_by (N := ["_law_errors", "_law_error"]) (sc := defScope s__law_kept) (by decide +kernel)) (fun _ _ _ _ _ => (pg_name (i := 1) sc__law_kept.nd rfl (by first | exact Or.inl rfl | exact Or.inr rfl))) (fun _ _ _ _ _ => pts_nil) (fun _ _ _ _ _ => (pe_xv (pv 1))))))), fun vs H Q E h => kept_run (cs := CS3 d) (cs' := CS4 d) rfl rfl (fk3 d) (fk4 d) h⟩)
theorem ok__law_made (T : Txt K mg d) : FnR P w K mg base CX0 3 d.f__law_made (spMade (CS d)) :=
  mkDx T.F__law_made sc__law_made (fun vs H Q E h => by
    obtain ⟨_, rfl, _⟩ := h
    rfl) (fun _ _ _ _ _ _ us hl => match us, hl with | [_], _ => rfl) (fun cdv A outer s H E hr => by
    have hu := hr.units
    have hu5 := room5 hr
    exact ⟨_, (pss_cons (ps_set (i := 1) sc__law_made.nd rfl (by first | exact Or.inl rfl | exact Or.inr rfl) (pe_lst (pa_cons (pe_mkXR (rs_InvalidDay T) (hr.mono (by decide)) rfl T.m_InvalidDay (pv 0)) (pa_cons (pe_mkXR (rs_InvalidRule T) (hr.mono (by decide)) rfl T.m_InvalidRule (pv 0)) (pa_cons (pe_mkXR (rs_InvalidFrame T) (hr.mono (by decide)) rfl T.m_InvalidFrame (pv 0)) (pa_cons (pe_mkXR (rs_InvalidText T) (hr.mono (by decide)) rfl T.m_InvalidText (pv 0)) (pa_cons (pe_mkXR (rs_InvalidLooks T) (hr.mono (by decide)) rfl T.m_InvalidLooks (pv 0)) pa_nil))))))) (pss_one (ps_ret (pe_op (op_add4 (K := K)) (pv 1) (pe_lst (pa_cons (pe_mkXR (rs_Refused T) (hr.mono (by decide)) rfl T.m_Refused (pv 0)) (pa_cons (pe_mkIR (rs_NoMeeting T) (hr.mono (by decide)) rfl T.m_NoMeeting (pv 0)) pa_nil))))))), fun vs H Q E h => made_run (cs := CS5 d) (cs' := CS2 d) (show 7 ≤ 1000 by decide) h⟩)
theorem ok__law_seed (T : Txt K mg d) : FnR P w K mg base CX0 1 d.f__law_seed (spD0 K 2 3 (D__law_seed (cl d))) :=
  mkDz T.F__law_seed sc__law_seed (by decide) (fun _ _ _ _ _ _ us hl => match us, hl with | [_, _], _ => rfl) (fun cdv A outer s H E hr => by
    have hu := hr.units
    have hu5 := room5 hr
    exact ⟨_, (pss_cons (ps_set (i := 2) sc__law_seed.nd rfl (by first | exact Or.inl rfl | exact Or.inr rfl) (pe_op (op_add4 (K := K)) (pe_op op_mul pe_int (pv 1)) pe_int)) (pss_cons (ps_if (pt_cmpR (op_lt2 (K := K) hu) (pv 1) (pe_callB (call_len2 (K := K)) (by rfl) T.b_len PySem.boot_len (pa_cons (pv 0) pa_nil)) (nomark _)) (pss_one (ps_set (i := 2) sc__law_seed.nd rfl (by first | exact Or.inl rfl | exact Or.inr rfl) (pe_callB call_abs (by rfl) T.b_abs (by decide +kernel) (pa_cons (pe_ix (ix_3 (K := K)) (pv 0) (pv 1) (fun _ _ => rfl)) pa_nil)))) (pss_one (ps_if (pt_cmpR op_gt (pe_callB (call_len2 (K := K)) (by rfl) T.b_len PySem.boot_len (pa_cons (pv 0) pa_nil)) pe_int (nomark _)) (pss_one (ps_set (i := 2) sc__law_seed.nd rfl (by first | exact Or.inl rfl | exact Or.inr rfl) (pe_op (op_add4 (K := K)) (pv 2) (pe_op op_mul (pe_op op_mod (pe_callTy call_int2 rfl T.b_int (by decide +kernel) (pa_cons (pe_callB call_abs (by rfl) T.b_abs (by decide +kernel) (pa_cons (pe_ix (ix_3 (K := K)) (pv 0) (pe_op op_mod (pe_callTy call_int2 rfl T.b_int (by decide +kernel) (pa_cons (pv 1) pa_nil)) (pe_callB (call_len2 (K := K)) (by rfl) T.b_len PySem.boot_len (pa_cons (pv 0) pa_nil))) (fun _ _ => rfl)) pa_nil)) pa_nil)) pe_int) pe_int)))) pss_nil))) (pss_one (ps_ret (pe_lst (pa_cons (pe_ifExp (pt_cmpR op_ge (pv 2) (pe_op op_pow pe_int pe_int) (nomark _)) (pv 2) pe_int) (pa_cons (pe_op (op_add4 (K := K)) (pe_op op_mod (pe_callTy call_int2 rfl T.b_int (by decide +kernel) (pa_cons (pe_op (op_add4 (K := K)) (pe_op op_mul (pe_op op_mod (pe_callTy call_int2 rfl T.b_int (by decide +kernel) (pa_cons (pv 2) pa_nil)) pe_int) pe_int) (pe_op op_mul pe_int (pv 1))) pa_nil)) pe_int) pe_int) pa_nil))))))), (L_seq (L_set (L_bin S_add4 (L_bin S_mul L_int (L_var (i := 1))) L_int)) (L_seq (L_if (L_test (L_bin S_lt2 (L_var (i := 1)) (L_cb C_len (A_cons (L_var (i := 0)) A_nil)))) (L_set (L_cb C_abs (A_cons (L_bin S_ix (L_var (i := 0)) (L_var (i := 1))) A_nil))) (L_if (L_test (L_bin S_gt (L_cb C_len (A_cons (L_var (i := 0)) A_nil)) L_int)) (L_set (L_bin S_add4 (L_var (i := 2)) (L_bin S_mul (L_bin S_mod (L_cb C_int (A_cons (L_cb C_abs (A_cons (L_bin S_ix (L_var (i := 0)) (L_bin S_mod (L_cb C_int (A_cons (L_var (i := 1)) A_nil)) (L_cb C_len (A_cons (L_var (i := 0)) A_nil)))) A_nil)) A_nil)) L_int) L_int))) L_next)) (L_ret (L_lst (A_cons (L_ifE (L_test (L_bin S_ge (L_var (i := 2)) (L_bin S_pow L_int L_int))) (L_var (i := 2)) L_int) (A_cons (L_bin S_add4 (L_bin S_mod (L_cb C_int (A_cons (L_bin S_add4 (L_bin S_mul (L_bin S_mod (L_cb C_int (A_cons (L_var (i := 2)) A_nil)) L_int) L_int) (L_bin S_mul L_int (L_var (i := 1)))) A_nil)) L_int) L_int) A_nil))))))⟩)
theorem ok__law_sorts (T : Txt K mg d) : FnR P w K mg base CX0 1 d.f__law_sorts (spSorts K (CA d)) :=
  mkDx T.F__law_sorts sc__law_sorts (fun vs H Q E h => by
    obtain ⟨_, _, _, rfl, _⟩ := h
    rfl) (fun _ _ _ _ _ _ us hl => match us, hl with | [_], _ => rfl) (fun cdv A outer s H E hr => by
    have hu := hr.units
    have hu5 := room5 hr
    exact ⟨_, (pss_cons (ps_set (i := 1) sc__law_sorts.nd rfl (by first | exact Or.inl rfl | exact Or.inr rfl) (pe_lst (pa_cons (pe_callB call_isXv (by rfl) T.b_isinstance (by decide +kernel) (pa_cons (pv 0) (pa_cons (pe_glob (v := .ref d.C_InvalidDay) rfl T.m_InvalidDay rfl) pa_nil))) (pa_cons (pe_callB call_isXv (by rfl) T.b_isinstance (by decide +kernel) (pa_cons (pv 0) (pa_cons (pe_glob (v := .ref d.C_InvalidRule) rfl T.m_InvalidRule rfl) pa_nil))) (pa_cons (pe_callB call_isXv (by rfl) T.b_isinstance (by decide +kernel) (pa_cons (pv 0) (pa_cons (pe_glob (v := .ref d.C_InvalidFrame) rfl T.m_InvalidFrame rfl) pa_nil))) pa_nil))))) (pss_cons (ps_expr (pe_bm PySem.F.plainAttrs_list PySem.F.slot_list_extend PySem.F.type_list_extend mt_extend (pv 1) (pa_cons (pe_lst (pa_cons (pe_callB call_isXv (by rfl) T.b_isinstance (by decide +kernel) (pa_cons (pv 0) (pa_cons (pe_glob (v := .ref d.C_InvalidText) rfl T.m_InvalidText rfl) pa_nil))) (pa_cons (pe_callB call_isXv (by rfl) T.b_isinstance (by decide +kernel) (pa_cons (pv 0) (pa_cons (pe_glob (v := .ref d.C_InvalidLooks) rfl T.m_InvalidLooks rfl) pa_nil))) (pa_cons (pe_callB call_isXv (by rfl) T.b_isinstance (by decide +kernel) (pa_cons (pv 0) (pa_cons (pe_glob (v := .ref d.C_Refused) rfl T.m_Refused rfl) pa_nil))) pa_nil)))) pa_nil))) (pss_cons (ps_expr (pe_bm PySem.F.plainAttrs_list PySem.F.slot_list_extend PySem.F.type_list_extend mt_extend (pv 1) (pa_cons (pe_lst (pa_cons (pe_callB call_isXv (by rfl) T.b_isinstance (by decide +kernel) (pa_cons (pv 0) (pa_cons (pe_glob (v := .ref d.C_NoMeeting) rfl T.m_NoMeeting rfl) pa_nil))) (pa_cons (pe_callB call_isXv (by rfl) T.b_isinstance (by decide +kernel) (pa_cons (pv 0) (pa_cons (pe_glob (v := .ref d.C_InvalidSlot) rfl T.m_InvalidSlot rfl) pa_nil))) pa_nil))) pa_nil))) (pss_one (ps_ret (pe_op (op_add4 (K := K)) (pv 1) (pe_lst (pa_cons (pe_callB call_isXv (by rfl) T.b_isinstance (by decide +kernel) (pa_cons (pv 0) (pa_cons (pe_glob (v := .ref d.C_InvalidCommand) rfl T.m_InvalidCommand rfl) pa_nil))) pa_nil)))))))), fun vs H Q E h => sorts_run (A := [d.C_InvalidDay, d.C_InvalidRule, d.C_InvalidFrame]) (B := [d.C_InvalidText, d.C_InvalidLooks, d.C_Refused]) (C' := [d.C_NoMeeting, d.C_InvalidSlot]) (D' := [d.C_InvalidCommand]) (show 9 ≤ 1000 by decide) h⟩)
end
end DD
set_option linter.all false
set_option maxRecDepth 100000
set_option maxHeartbeats 1000000
namespace DL
open PySem PySem.Spec PyProof.Rows L2 DD
section
variable {α β : Type} {ρ : En}
@[simp] theorem r_bind_ok {a : α} {U : α → En → Res β} : (Res.ok a ρ).bind U = U a ρ := rfl
@[simp] theorem r_bind_st {U : α → En → Res β} : (Res.stuck : Res α).bind U = .stuck := rfl
@[simp] theorem r_sb_ok {a : α} {U : α → En → SR} : (Res.ok a ρ).sb U = U a ρ := rfl
@[simp] theorem r_sb_st {U : α → En → SR} : (Res.stuck : Res α).sb U = .stuck := rfl
end
@[simp] theorem q_dVar {i : Nat} {ρ : En} : dVar i ρ = (match ρ[i]? with
  | some (.val d) => .ok (.val d) ρ
  | some (.own _) | some (.bor _) | some (.lck _) => .ok (.own i) ρ
  | _ => .stuck) := rfl
@[simp] theorem q_dC {d : D} {ρ : En} : dC d ρ = (.ok (.val d) ρ) := rfl
@[simp] theorem q_dBin {op : D2} {A B : En → Res X} {ρ : En} : dBin op A B ρ = ((A ρ).bind fun a ρ1 => (B ρ1).bind fun b ρ2 => ap2 op a.settle b ρ2) := rfl
@[simp] theorem q_dIsN {A : En → Res X} {ρ : En} : dIsN A ρ = ((A ρ).bind fun a ρ1 => match deref ρ1 a with
  | some d => .ok (.val (.bl d.isNon)) ρ1
  | none => .stuck) := rfl
@[simp] theorem q_dNotN {A : En → Res X} {ρ : En} : dNotN A ρ = ((A ρ).bind fun a ρ1 => match deref ρ1 a with
  | some d => .ok (.val (.bl !d.isNon)) ρ1
  | none => .stuck) := rfl
@[simp] theorem q_dTest {A : En → Res X} {ρ : En} : dTest A ρ = ((A ρ).bind fun a ρ1 => lift (asB ρ1 a) ρ1) := rfl
@[simp] theorem q_dNot {A : En → Res X} {ρ : En} : dNot A ρ = ((A ρ).bind fun a ρ1 => lift ((asB ρ1 a).map fun b => X.val (.bl !b)) ρ1) := rfl
@[simp] theorem q_dAnd {A B : En → Res X} {ρ : En} : dAnd A B ρ = ((A ρ).bind fun a ρ1 => match asB ρ1 a with
  | some true => B ρ1
  | some false => .ok (.val (.bl false)) ρ1
  | none => .stuck) := rfl
@[simp] theorem q_dOr {A B : En → Res X} {ρ : En} : dOr A B ρ = ((A ρ).bind fun a ρ1 => match asB ρ1 a with
  | some false => B ρ1
  | some true => .ok (.val (.bl true)) ρ1
  | none => .stuck) := rfl
@[simp] theorem q_tnd {T U : En → Res Bool} {ρ : En} : tnd T U ρ = ((T ρ).bind fun a ρ1 => match a with
  | true => U ρ1
  | false => .ok false ρ1) := rfl
@[simp] theorem q_tor {T U : En → Res Bool} {ρ : En} : tor T U ρ = ((T ρ).bind fun a ρ1 => match a with
  | true => .ok true ρ1
  | false => U ρ1) := rfl
@[simp] theorem q_tnot {T : En → Res Bool} {ρ : En} : tnot T ρ = ((T ρ).bind fun a ρ1 => .ok (!a) ρ1) := rfl
@[simp] theorem q_dIfE {T : En → Res Bool} {A B : En → Res X} {ρ : En} : dIfE T A B ρ = ((T ρ).bind fun a ρ1 => match a with
  | true => A ρ1
  | false => B ρ1) := rfl
@[simp] theorem q_dChain {op op' : D2} {A B C : En → Res X} {ρ : En} : dChain op op' A B C ρ = ((A ρ).bind fun a ρ1 => (B ρ1).bind fun b ρ2 => (ap2 op a.settle b.settle ρ2).bind fun z ρ3 => match asB ρ3 z with
  | some true => (C ρ3).bind fun c ρ4 => ap2 op' b.settle c ρ4
  | some false => .ok (.val (.bl false)) ρ3
  | none => .stuck) := rfl
@[simp] theorem q_aNil  {ρ : En} : aNil  ρ = (.ok [] ρ) := rfl
@[simp] theorem q_aCons {A : En → Res X} {T : En → Res (List X)} {ρ : En} : aCons A T ρ = ((A ρ).bind fun a ρ1 => (T ρ1).bind fun as ρ2 => .ok (a.settle :: as) ρ2) := rfl
@[simp] theorem q_dTup {T : En → Res (List X)} {ρ : En} : dTup T ρ = ((T ρ).bind fun xs ρ1 => match toVals ρ1 xs with
  | some (ds, ρ2) => if ds.length ≤ sizeLine then .ok (.val (.tup ds)) ρ2 else .stuck
  | none => .stuck) := rfl
@[simp] theorem q_dLst {T : En → Res (List X)} {ρ : En} : dLst T ρ = ((T ρ).bind fun xs ρ1 => match toVals ρ1 xs with
  | some (ds, ρ2) => if ds.length ≤ sizeLine then .ok (.new (.lst ds)) ρ2 else .stuck
  | none => .stuck) := rfl
@[simp] theorem q_oNone  {ρ : En} : oNone  ρ = (.ok none ρ) := rfl
@[simp] theorem q_oSome {A : En → Res X} {ρ : En} : oSome A ρ = ((A ρ).bind fun a ρ1 => lift ((asI ρ1 a).map some) ρ1) := rfl
@[simp] theorem q_dSl {A : En → Res X} {L U : En → Res (Option Int)} {ρ : En} : dSl A L U ρ = ((A ρ).bind fun a ρ1 => (L ρ1).bind fun lo ρ2 => (U ρ2).bind fun hi ρ3 => match deref ρ3 a.settle with
  | some d => lift (opSl d lo hi) ρ3
  | none => .stuck) := rfl
@[simp] theorem q_dCB {f : List D → Option X} {T : En → Res (List X)} {ρ : En} : dCB f T ρ = ((T ρ).bind (apN f)) := rfl
@[simp] theorem q_g1 {A : En → Res X} {ρ : En} : g1 A ρ = ((A ρ).bind fun a ρ1 => lift ((asI ρ1 a).map fun n => (0, n)) ρ1) := rfl
@[simp] theorem q_g2 {A B : En → Res X} {ρ : En} : g2 A B ρ = ((A ρ).bind fun a ρ1 => (B ρ1).bind fun b ρ2 => match asI ρ2 a.settle, asI ρ2 b with
  | some i, some j => .ok (i, j) ρ2
  | _, _ => .stuck) := rfl
@[simp] theorem q_dFmt {A : En → Res X} {ρ : En} : dFmt A ρ = ((A ρ).bind fun a ρ1 => match deref ρ1 a with
  | some d => lift ((fmtD d).map fun s => X.val (.str s)) ρ1
  | none => .stuck) := rfl
@[simp] theorem q_jNil  {acc : Str} {ρ : En} : jNil  acc ρ = (.ok acc ρ) := rfl
@[simp] theorem q_jCons {A : En → Res X} {J : Str → En → Res Str} {acc : Str} {ρ : En} : jCons A J acc ρ = ((A ρ).bind fun a ρ1 => match deref ρ1 a with
  | some (.str y) => if (acc ++ y).length ≤ sizeLine then J (acc ++ y) ρ1 else .stuck
  | _ => .stuck) := rfl
@[simp] theorem q_dJoin {J : Str → En → Res Str} {ρ : En} : dJoin J ρ = ((J Str.empty ρ).bind fun s ρ1 => .ok (.val (.str s)) ρ1) := rfl
@[simp] theorem q_dMt {f : D → List D → Option X} {A : En → Res X} {T : En → Res (List X)} {ρ : En} : dMt f A T ρ = ((A ρ).bind fun a ρ1 => match deref ρ1 a with
  | some (.str s) => (T ρ1).bind fun xs ρ2 => match derefs ρ2 xs with
    | some ds => lift (f (.str s) ds) ρ2
    | none => .stuck
  | _ => .stuck) := rfl
@[simp] theorem q_sNext  {ρ : En} : sNext  ρ = (.nx ρ) := rfl
@[simp] theorem q_sSeq {S U : En → SR} {ρ : En} : sSeq S U ρ = (match S ρ with
  | .nx ρ1 => U ρ1
  | r => r) := rfl
@[simp] theorem q_sDrop {A : En → Res X} {ρ : En} : sDrop A ρ = ((A ρ).sb fun _ ρ1 => .nx ρ1) := rfl
@[simp] theorem q_sRet {A : En → Res X} {ρ : En} : sRet A ρ = ((A ρ).sb fun a ρ1 => .rt a ρ1) := rfl
@[simp] theorem q_sRetN  {ρ : En} : sRetN  ρ = (.rt (.val .non) ρ) := rfl
@[simp] theorem q_sBreak  {ρ : En} : sBreak  ρ = (.bk ρ) := rfl
@[simp] theorem q_sCont  {ρ : En} : sCont  ρ = (.ct ρ) := rfl
@[simp] theorem q_sIf {T : En → Res Bool} {S U : En → SR} {ρ : En} : sIf T S U ρ = ((T ρ).sb fun b ρ1 => match b with
  | true => S ρ1
  | false => U ρ1) := rfl
@[simp] theorem q_sSet {i : Nat} {A : En → Res X} {ρ : En} : sSet i A ρ = ((A ρ).sb fun a ρ1 => putX i a ρ1) := rfl
@[simp] theorem q_sTgt {U : Tg} {A : En → Res X} {ρ : En} : sTgt U A ρ = ((A ρ).sb fun a ρ1 => match toVal ρ1 a with
  | some (d, ρ2) => match U d ρ2 with
    | some ρ3 => .nx ρ3
    | none => .stuck
  | none => .stuck) := rfl
@[simp] theorem q_eMut {i : Nat} {f : Mu} {T : En → Res (List X)} {ρ : En} : eMut i f T ρ = (match lstAt ρ i with
  | none => .stuck
  | some _ => (T ρ).bind fun xs ρ1 => match toVals ρ1 xs with
    | none => .stuck
    | some (as, ρ2) => match lstAt ρ2 i with
      | none => .stuck
      | some ds => match f ds as with
        | none => .stuck
        | some (z, ds') => .ok (.val z) (setAt ρ2 i ds')) := rfl
@[simp] theorem q_sPut {i : Nat} {A B : En → Res X} {ρ : En} : sPut i A B ρ = ((A ρ).sb fun a ρ1 => match toVal ρ1 a with
  | none => .stuck
  | some (d, ρ2) => match lstAt ρ2 i with
    | none => .stuck
    | some _ => (B ρ2).sb fun b ρ3 => match asI ρ3 b, lstAt ρ3 i with
      | some k, some ds => match ixN ds.length k with
        | some j => .nx (setAt ρ3 i (ds.set j d))
        | none => .stuck
      | _, _ => .stuck) := rfl
@[simp] theorem q_dFld {Cs : List Addr} {f : Str} {A : En → Res X} {ρ : En} : dFld Cs f A ρ = ((A ρ).bind fun a ρ1 => match deref ρ1 a with
  | some (.ins C ks ds) => if C ∈ Cs then lift ((getF f ks ds).map X.val) ρ1 else .stuck
  | _ => .stuck) := rfl
@[simp] theorem q_sFldD {Cs : List Addr} {i : Nat} {f : Str} {A : En → Res X} {ρ : En} : sFldD Cs i f A ρ = ((A ρ).sb fun a ρ1 => match toVal ρ1 a with
  | none => .stuck
  | some (d, ρ2) => match insAt ρ2 i with
    | some (C, ks, ds) => if C ∈ Cs ∧ ks.length < 1000 then .nx (setIns ρ2 i (.ins C (putFD f d ks ds).1 (putFD f d ks ds).2)) else .stuck
    | none => .stuck) := rfl
@[simp] theorem q_nCons {A : En → Res X} {T : En → Res (List X)} {ρ : En} : nCons A T ρ = ((A ρ).bind fun a ρ1 => match a with
  | .own j => match toVal ρ1 (.own j) with
    | some (d, ρ2) => (T ρ2).bind fun as ρ3 => .ok (.val d :: as) ρ3
    | none => .stuck
  | a => (T ρ1).bind fun as ρ2 => .ok (a :: as) ρ2) := rfl
@[simp] theorem q_sMulti {is : List Nat} {T : En → Res (List X)} {ρ : En} : sMulti is T ρ = ((T ρ).sb fun xs ρ1 => puts is xs ρ1) := rfl
@[simp] theorem q_dRng1 {A : En → Res X} {ρ : En} : dRng1 A ρ = ((A ρ).bind fun a ρ1 => match asI ρ1 a with
  | some j => if -(2 ^ 62) ≤ j ∧ j < 2 ^ 62 then .ok ((List.range j.toNat).map fun i => D.int (0 + (i : Nat))) ρ1 else .stuck
  | none => .stuck) := rfl
@[simp] theorem q_dRng2 {A B : En → Res X} {ρ : En} : dRng2 A B ρ = ((A ρ).bind fun a ρ1 => (B ρ1).bind fun b ρ2 => match asI ρ2 a.settle, asI ρ2 b with
  | some i, some j => if -(2 ^ 62) ≤ i ∧ i < 2 ^ 62 ∧ -(2 ^ 62) ≤ j ∧ j < 2 ^ 62 then .ok ((List.range (j - i).toNat).map fun n => D.int (i + (n : Nat))) ρ2 else .stuck
  | _, _ => .stuck) := rfl
@[simp] theorem q_sFor {S : En → Res (List D)} {U : Tg} {B : En → SR} {ρ : En} : sFor S U B ρ = ((S ρ).sb fun ds ρ1 => forL U B ds ρ1) := rfl
@[simp] theorem q_sForS {A : En → Res X} {U : Tg} {B : En → SR} {ρ : En} : sForS A U B ρ = ((seqOf A ρ).sb fun p ρ1 => match p.1 with
  | none => forL U B p.2 ρ1
  | some i => (forL U B p.2 ρ1).unlock i) := rfl
@[simp] theorem q_dLc {S : En → Res (List D)} {vs : List Nat} {U : Tg} {T : En → Res Bool} {A : En → Res X} {ρ : En} : dLc S vs U T A ρ = ((S ρ).bind fun ds ρ1 => lcAll vs U T A ds ρ1) := rfl
@[simp] theorem q_tdYes  {ρ : En} : tdYes  ρ = (.ok true ρ) := rfl
@[simp] theorem q_dLcS {A0 : En → Res X} {vs : List Nat} {U : Tg} {T : En → Res Bool} {A : En → Res X} {ρ : En} : dLcS A0 vs U T A ρ = ((seqOf A0 ρ).bind fun p ρ1 => match p.1 with
  | none => lcAll vs U T A p.2 ρ1
  | some i => (lcAll vs U T A p.2 ρ1).unlock i) := rfl
@[simp] theorem q_dCall {n m : Nat} {T : En → SR} {A : En → Res (List X)} {ρ : En} : dCall n m T A ρ = ((A ρ).bind fun xs ρ1 => match toVals ρ1 xs with
  | some (ds, ρ2) => if ds.length = n then callV (fin (T (env0 m (ds.map .val)))) ρ2 else .stuck
  | none => .stuck) := rfl
@[simp] theorem q_dCallB {n m : Nat} {T : En → SR} {i : Nat} {A : En → Res (List X)} {ρ : En} : dCallB n m T i A ρ = ((A ρ).bind fun xs ρ1 => match toVals ρ1 xs with
  | some (ds, ρ2) => match coAt ρ2 i with
    | some o => if ds.length + 1 = n then callB (fin (T (env0 m (.bor o :: ds.map .val)))) i ρ2 else .stuck
    | none => .stuck
  | none => .stuck) := rfl
@[simp] theorem q_dMeth {C : Addr} {f : Str} {n m : Nat} {T : En → SR} {A : En → Res X} {B : En → Res (List X)} {ρ : En} : dMeth C f n m T A B ρ = ((A ρ).bind fun a ρ1 => match toVal ρ1 a with
  | some (.ins C' ks es, ρ2) => if C' = C ∧ noF f ks = true then (B ρ2).bind fun xs ρ3 => match toVals ρ3 xs with
      | some (ds, ρ4) => if ds.length + 1 = n then callV (fin (T (env0 m ((D.ins C' ks es :: ds).map .val)))) ρ4 else .stuck
      | none => .stuck
    else .stuck
  | _ => .stuck) := rfl
@[simp] theorem q_dProp {C : Addr} {m : Nat} {T : En → SR} {A : En → Res X} {ρ : En} : dProp C m T A ρ = ((A ρ).bind fun a ρ1 => match toVal ρ1 a with
  | some (.ins C' ks es, ρ2) => if C' = C then callV (fin (T (env0 m [.val (D.ins C' ks es)]))) ρ2 else .stuck
  | _ => .stuck) := rfl
@[simp] theorem q_dMake {C : Addr} {n m : Nat} {T : En → SR} {A : En → Res (List X)} {ρ : En} : dMake C n m T A ρ = ((A ρ).bind fun xs ρ1 => match toVals ρ1 xs with
  | some (ds, ρ2) => if ds.length + 1 = n then makeV (fin (T (env0 m (.bor (.ins C [] []) :: ds.map .val)))) ρ2 else .stuck
  | none => .stuck) := rfl
@[simp] theorem q_dIsi {kt : Kit} {Cs : List Addr} {us : List Value} {A : En → Res X} {ρ : En} : dIsi kt Cs us A ρ = ((A ρ).bind fun a ρ1 => match deref ρ1 a with
  | some d => if d.tyOk Cs = true then lift ((anyK kt d.ty us).map fun b => X.val (.bl b)) ρ1 else .stuck
  | none => .stuck) := rfl
@[simp] theorem q_dStrO {C : Addr} {m : Nat} {T : En → SR} {A : En → Res X} {ρ : En} : dStrO C m T A ρ = ((A ρ).bind fun a ρ1 => match toVal ρ1 a with
  | some (.ins C' ks es, ρ2) => if C' = C then callP xStr (fin (T (env0 m [.val (D.ins C' ks es)]))) ρ2 else .stuck
  | _ => .stuck) := rfl
@[simp] theorem q_dLenO {C : Addr} {m : Nat} {T : En → SR} {A : En → Res X} {ρ : En} : dLenO C m T A ρ = ((A ρ).bind fun a ρ1 => match toVal ρ1 a with
  | some (.ins C' ks es, ρ2) => if C' = C then callP xLen (fin (T (env0 m [.val (D.ins C' ks es)]))) ρ2 else .stuck
  | _ => .stuck) := rfl
@[simp] theorem q_dEqO {p : X → Option X} {C : Addr} {m : Nat} {T : En → SR} {A B : En → Res X} {ρ : En} : dEqO p C m T A B ρ = ((A ρ).bind fun a ρ1 => (B ρ1).bind fun b ρ2 => match toVal ρ2 a.settle with
  | some (.ins C' ks es, ρ3) => match toVal ρ3 b.settle with
    | some (.ins C'' ks' es', ρ4) => if C' = C ∧ C'' = C then callP p (fin (T (env0 m [.val (D.ins C' ks es), .val (D.ins C'' ks' es')]))) ρ4 else .stuck
    | _ => .stuck
  | _ => .stuck) := rfl
@[simp] theorem q_dLc2 {S : En → Res (List D)} {vs vs1 : List Nat} {U : Tg} {T : En → Res Bool} {S1 : En → Res (List D)} {U1 : Tg} {T1 : En → Res Bool} {A : En → Res X} {ρ : En} : dLc2 S vs vs1 U T S1 U1 T1 A ρ = ((S ρ).bind fun ds ρ1 => if vs.all (freeAt ρ1) = true then
    match lc2L vs vs1 U T S1 U1 T1 A ds (wipeN ρ1 vs) [] with
    | .ok es ρ2 => .ok (.new (.lst es)) ρ2
    | _ => .stuck
  else .stuck) := rfl
@[simp] theorem q_dUn {f : D → Option X} {A : En → Res X} {ρ : En} : dUn f A ρ = ((A ρ).bind fun a ρ1 => match deref ρ1 a with
  | some d => lift (f d) ρ1
  | none => .stuck) := rfl
@[simp] theorem q_dLend {n m : Nat} {T : En → SR} {i : Nat} {A : En → Res (List X)} {ρ : En} : dLend n m T i A ρ = (if (coAt ρ i).isSome then dCallB n m T i A ρ else .stuck) := rfl
@[simp] theorem q_dCMeth {C : Addr} {n m : Nat} {T : En → SR} {B : En → Res (List X)} {ρ : En} : dCMeth C n m T B ρ = ((B ρ).bind fun xs ρ1 => match toVals ρ1 xs with
  | some (ds, ρ2) => if ds.length + 1 = n then callV (fin (T (env0 m ((D.cls C :: ds).map .val)))) ρ2 else .stuck
  | none => .stuck) := rfl
@[simp] theorem q_dMakeL {C : Addr} {i n m : Nat} {T : En → SR} {A : En → Res (List X)} {ρ : En} : dMakeL C i n m T A ρ = (match ρ[i]? with
  | some (.val (.cls C')) => if C' = C then dMake C n m T A ρ else .stuck
  | _ => .stuck) := rfl
@[simp] theorem q_dSeqI {A : En → Res X} {ρ : En} : dSeqI A ρ = ((A ρ).bind fun a ρ1 => match a with
  | .val d => lift d.items ρ1
  | .new o => lift o.d.items ρ1
  | .own i => match ρ1[i]? with
    | some (.val d) => lift d.items ρ1
    | _ => .stuck) := rfl
@[simp] theorem w_eq_i {i j : Int} : eqB (.int i) (.int j) = some (decide (i = j)) := rfl
@[simp] theorem w_eq_s {i j : Str} : eqB (.str i) (.str j) = some (decide (i = j)) := rfl
@[simp] theorem w_eq_b {i j : Bool} : eqB (.bl i) (.bl j) = some (decide (i = j)) := rfl
@[simp] theorem w_eq_n : eqB .non .non = some true := rfl
section
variable {d : D} {o : O}
@[simp] theorem w_free_v : (Slot.val d).free = true := rfl
@[simp] theorem w_free_n : Slot.none.free = true := rfl
@[simp] theorem w_free_o : (Slot.own o).free = true := rfl
@[simp] theorem w_free_b : (Slot.bor o).free = false := rfl
@[simp] theorem w_free_l : (Slot.lck o).free = false := rfl
@[simp] theorem w_dd_v : (Slot.val d).dd = some d := rfl
@[simp] theorem w_dd_o : (Slot.own o).dd = some o.d := rfl
@[simp] theorem w_dd_b : (Slot.bor o).dd = some o.d := rfl
@[simp] theorem w_dd_l : (Slot.lck o).dd = some o.d := rfl
@[simp] theorem w_co_o : (Slot.own o).co = some o := rfl
@[simp] theorem w_co_b : (Slot.bor o).co = some o := rfl
end
section
variable {α : Type} {ρ : En} {d : D} {o : O} {i : Nat} {x : X}
@[simp] theorem w_fin_nx : fin (.nx ρ) = .ok (.val .non) ρ := rfl
@[simp] theorem w_fin_v : fin (.rt (.val d) ρ) = .ok (.val d) ρ := rfl
@[simp] theorem w_fin_n : fin (.rt (.new o) ρ) = .ok (.new o) ρ := rfl
@[simp] theorem w_fin_o : fin (.rt (.own i) ρ) = (match ρ[i]? with
    | some (.val d) => .ok (.val d) ρ
    | some (.own o) => .ok (.new o) ρ
    | _ => .stuck) := rfl
@[simp] theorem w_set_v : (X.val d).settle = .val d := rfl
@[simp] theorem w_set_n : (X.new o).settle = .val o.d := rfl
@[simp] theorem w_set_o : (X.own i).settle = .own i := rfl
@[simp] theorem w_O_lst {ds : List D} : (O.lst ds).d = .lst ds := rfl
@[simp] theorem w_O_ins {C : Addr} {ks : List Str} {ds : List D} : (O.ins C ks ds).d = .ins C ks ds := rfl
@[simp] theorem w_der_v : deref ρ (.val d) = some d := rfl
@[simp] theorem w_der_n : deref ρ (.new o) = some o.d := rfl
@[simp] theorem w_der_o : deref ρ (.own i) = ρ[i]?.bind Slot.dd := rfl
@[simp] theorem w_tv_v : toVal ρ (.val d) = some (d, ρ) := rfl
@[simp] theorem w_tv_n : toVal ρ (.new o) = some (o.d, ρ) := rfl
@[simp] theorem w_tv_o : toVal ρ (.own i) = (match ρ[i]? with
    | some (.val d) => some (d, ρ)
    | some (.own o) => some (o.d, ρ.set i (.val o.d))
    | _ => none) := rfl
@[simp] theorem w_lift_s {a : α} : lift (some a) ρ = .ok a ρ := rfl
@[simp] theorem w_lift_n : lift (none : Option α) ρ = .stuck := rfl
@[simp] theorem w_callP {p : X → Option X} {ρ' : En} : callP p (.ok x ρ') ρ = lift (p x) ρ := rfl
@[simp] theorem w_make {ρ' : En} (h : ρ'[0]? = some (.bor o)) : makeV (.ok (.val .non) ρ') ρ = .ok (.new o) ρ := by
  simp only [makeV, h]
end
@[simp] theorem sl_eq : (sizeLine : Nat) = 16777216 := sizeLine_eq
/-- what a def hands back -/
@[simp] def resV : Rt → Option X
  | .ok x _ => some x
  | _ => none
/-- .. and what was lent -/
@[simp] def resB : Rt → Option (X × O)
  | .ok x ρ => match (ρ[0]? : Option Slot) with
    | some (.bor o) => some (x, o)
    | _ => none
  | _ => none
def Gives (m : Nat) (T : En → SR) (ds : List D) (x : X) : Prop := resV (fin (T (env0 m (ds.map .val)))) = some x
def GivesB (m : Nat) (T : En → SR) (o : O) (ds : List D) (x : X) (o' : O) : Prop := resB (fin (T (env0 m (.bor o :: ds.map .val)))) = some (x, o')
open Classical in
@[simp] theorem q_dLstRg {T : En → Res (Int × Int)} {ρ : En} : dLstRg T ρ = ((T ρ).bind fun p ρ1 => if RgOk p.1 p.2 then .ok (.new (.lst (rgD p.1 p.2))) ρ1 else .stuck) := by
  unfold dLstRg
  rfl
theorem Gives.elim {m : Nat} {T : En → SR} {ds : List D} {x : X} (h : Gives m T ds x) : ∃ ρ', fin (T (env0 m (ds.map .val))) = .ok x ρ' := by
  unfold Gives at h
  cases e : fin (T (env0 m (ds.map .val))) with
  | ok y ρ' =>
    rw [e] at h
    cases h
    exact ⟨ρ', rfl⟩
  | err y ρ' => rw [e] at h; cases h
  | stuck => rw [e] at h; cases h
theorem GivesB.elim {m : Nat} {T : En → SR} {ds : List D} {x : X} {o o' : O} (h : GivesB m T o ds x o') : ∃ ρ', fin (T (env0 m (.bor o :: ds.map .val))) = .ok x ρ' ∧ ρ'[0]? = some (.bor o') := by
  unfold GivesB at h
  cases e : fin (T (env0 m (.bor o :: ds.map .val))) with
  | ok y ρ' =>
    rw [e] at h
    simp only [resB] at h
    split at h
    · rename_i u e2
      cases h
      exact ⟨ρ', rfl, e2⟩
    · cases h
  | err y ρ' => rw [e] at h; cases h
  | stuck => rw [e] at h; cases h
@[simp] theorem callB_ok {x : X} {ρ' ρ : En} {i : Nat} {o : O} (h : ρ'[0]? = some (.bor o)) : callB (.ok x ρ') i ρ = .ok x (reAt ρ i o) := by
  simp only [callB, h]
@[simp] theorem callV_ok {x : X} {ρ' ρ : En} : callV (.ok x ρ') ρ = .ok x ρ := rfl
@[simp] def stepL (U : Tg) (B : En → SR) (d : D) (ρ : En) : SR := match U d ρ with
  | none => .stuck
  | some ρ1 => B ρ1
theorem forL_inv {U : Tg} {B : En → SR} (W : Nat → En → Prop) {ds : List D} (h : ∀ i (hi : i < ds.length) ρ, W i ρ → ∃ ρ2, (stepL U B ds[i] ρ = .nx ρ2 ∨ stepL U B ds[i] ρ = .ct ρ2) ∧ W (i + 1) ρ2) {ρ : En} (h0 : W 0 ρ) : ∃ ρ', forL U B ds ρ = .nx ρ' ∧ W ds.length ρ' := by
  induction ds generalizing W ρ with
  | nil => exact ⟨ρ, rfl, h0⟩
  | cons d ds ih =>
    obtain ⟨ρ2, e2, w2⟩ := h 0 (by simp) ρ h0
    obtain ⟨ρ', e3, w3⟩ := ih (fun i => W (i + 1)) (fun i hi ρ hw => by
      obtain ⟨r2, q2, q3⟩ := h (i + 1) (by simpa using hi) ρ hw
      exact ⟨r2, by simpa using q2, q3⟩) w2
    refine ⟨ρ', ?_, w3⟩
    unfold forL
    have e2 : stepL U B d ρ = .nx ρ2 ∨ stepL U B d ρ = .ct ρ2 := e2
    unfold stepL at e2
    cases e1 : U d ρ with
    | none => rw [e1] at e2; rcases e2 with e2 | e2 <;> cases e2
    | some ρ1 =>
      rw [e1] at e2
      rcases e2 with e2 | e2 <;> (simp only [e2]; exact e3)
/-- a loop over range(n) -/
theorem forR_inv {U : Tg} {B : En → SR} {n : Nat} (W : Nat → En → Prop) (h : ∀ i, i < n → ∀ ρ, W i ρ → ∃ ρ2, (stepL U B (.int i) ρ = .nx ρ2 ∨ stepL U B (.int i) ρ = .ct ρ2) ∧ W (i + 1) ρ2) {ρ : En} (h0 : W 0 ρ) : ∃ ρ', forL U B ((List.range n).map fun i => D.int (i : Nat)) ρ = .nx ρ' ∧ W n ρ' := by
  obtain ⟨ρ', e, w⟩ := forL_inv (U := U) (B := B) (ds := (List.range n).map fun i => D.int (i : Nat)) W (fun i hi ρ hw => by
    simp only [List.length_map, List.length_range] at hi
    simp only [List.getElem_map, List.getElem_range]
    exact h i hi ρ hw) h0
  refine ⟨ρ', e, ?_⟩
  simpa using w
/-- the state of the draws -/
def box (b : Int × Int) : O := .lst [.int b.1, .int b.2]
theorem choose_gives {c : Cl} (b : Int × Int) {m : Int} (hm : 0 < m) (hm2 : m < 1073741824) : ∃ r b', GivesB 4 (D__law_choose c) (box b) [.int m] (.val (.int r)) (box b') ∧ 0 ≤ r ∧ r < m := by
  obtain ⟨x, y⟩ := b
  by_cases hx : 0 < x
  · refine ⟨x % m, (x / m, y), ?_, Int.emod_nonneg _ (by omega), Int.emod_lt_of_pos _ hm⟩
    simp [GivesB, D__law_choose, atI, ixN, hx, CDiv, hm, hm2, box]
  · refine ⟨((y * 40014 + 71) % 2147483563 * 2147483647 + (((y * 40014 + 71) % 2147483563 * 40692 + 4603) % 2147483629 + 1)) / 8191 % m, (x, ((y * 40014 + 71) % 2147483563 * 40692 + 4603) % 2147483629 + 1), ?_, Int.emod_nonneg _ (by omega : m ≠ 0), Int.emod_lt_of_pos _ hm⟩
    simp [GivesB, D__law_choose, atI, ixN, hx, CDiv, CMul, hm, hm2, box]
theorem atI_get {α : Type} {xs : List α} {i : Int} (h : 0 ≤ i) (h2 : i < xs.length) : ∃ x, atI xs i = some x ∧ x ∈ xs := by
  have hl : i.toNat < xs.length := by omega
  refine ⟨xs[i.toNat], ?_, List.getElem_mem hl⟩
  simp [atI, ixN, h, h2, hl]
theorem one_of_gives {c : Cl} (b : Int × Int) {ds : List D} (h0 : ds ≠ []) (h1 : ds.length ≤ 1000) : ∃ d b', GivesB 2 (D__law_one_of c) (box b) [.lst ds] (.val d) (box b') ∧ d ∈ ds := by
  have hp : 0 < ds.length := List.length_pos_iff.mpr h0
  obtain ⟨r, b', h, hr, hr2⟩ := choose_gives (c := c) b (m := (ds.length : Int)) (by omega) (by omega)
  obtain ⟨d, hd, hm⟩ := atI_get (xs := ds) hr hr2
  obtain ⟨ρ', e1, e2⟩ := h.elim
  simp at e1
  exact ⟨d, b', by simp [GivesB, D__law_one_of, e1, e2, hd], hm⟩
end DL
set_option linter.all false
set_option maxRecDepth 100000
set_option maxHeartbeats 1000000
namespace DL
open PySem PySem.Spec PyProof.Rows L2 DD
theorem atI_ints {ns : List Int} {k : Nat} (h : k < ns.length) : atI (ns.map D.int) (k : Int) = some (.int ns[k]) := by
  have h2 : (k : Int) < ns.length := by omega
  simp [atI, ixN, h2, h]
theorem seed_gives {c : Cl} (ns : List Int) (k : Nat) : ∃ b, Gives 3 (D__law_seed c) [.scr (ns.map D.int), .int k] (.new (box b)) := by
  by_cases h1 : k < ns.length
  · have h1' : (k : Int) < ns.length := by omega
    have e := atI_ints h1
    by_cases h2 : (1000000000000000000 : Int) ≤ (if ns[k] < 0 then -ns[k] else ns[k])
    · simp [Gives, D__law_seed, CMul, CPow, h1', e, box, h2]
    · simp [Gives, D__law_seed, CMul, CPow, h1', e, box, h2]
  · have h1' : ¬ (k : Int) < ns.length := by omega
    by_cases h0 : 0 < ns.length
    · have hm : k % ns.length < ns.length := Nat.mod_lt _ h0
      have e := atI_ints (ns := ns) hm
      rw [Int.natCast_emod] at e
      by_cases h2 : (1000000000000000000 : Int) ≤ 8831 * (k : Int) + 101 + (if ns[k % ns.length] < 0 then -ns[k % ns.length] else ns[k % ns.length]) % 2147483629 * 40093
      · simp [Gives, D__law_seed, CMul, CPow, h1, h0, e, box, h2]
      · simp [Gives, D__law_seed, CMul, CPow, h1, h0, e, box, h2]
    · by_cases h2 : (1000000000000000000 : Int) ≤ 8831 * (k : Int) + 101
      · simp [Gives, D__law_seed, CMul, CPow, h1, h0, box, h2]
      · simp [Gives, D__law_seed, CMul, CPow, h1, h0, box, h2]
/-- a meeting -/
abbrev Mt := Int × Int × Bool
/-- meetings in their order, from a tick on -/
def Meets : Int → List Mt → Prop
  | _, [] => True
  | a, m :: ms => a ≤ m.1 ∧ m.1 < m.2.1 ∧ Meets m.2.1 ms
def endOf : Int → List Mt → Int
  | a, [] => a
  | _, m :: ms => endOf m.2.1 ms
/-- a rule's five -/
structure Ru where
  s : Int
  g : Int
  l : Int
  p : Str
  h : Option (Int × Int)
structure RuOk (r : Ru) : Prop where
  s : 1 ≤ r.s ∧ r.s ≤ 8
  g : 0 ≤ r.g ∧ r.g ≤ 16
  l : 0 ≤ r.l ∧ r.l ≤ 16
  p : r.p ∈ (["busy", "none", "apart", "one"] : List Str)
  h : ∀ x, r.h = some x → 0 ≤ x.1 ∧ x.1 < x.2 ∧ x.2 ≤ 48
end DL
set_option linter.all false
set_option maxRecDepth 100000
set_option maxHeartbeats 1000000
namespace DL
open PySem PySem.Spec PyProof.Rows L2 DD
@[simp] theorem k_ii : kitB "int" "int" = some true := by decide +kernel
@[simp] theorem k_ib : kitB "int" "bool" = some false := by decide +kernel
@[simp] theorem k_bb : kitB "bool" "bool" = some true := by decide +kernel
@[simp] theorem k_ll : kitB "list" "list" = some true := by decide +kernel
@[simp] theorem k_tl : kitB "tuple" "list" = some false := by decide +kernel
@[simp] theorem k_tt : kitB "tuple" "tuple" = some true := by decide +kernel
@[simp] theorem k_lt : kitB "list" "tuple" = some false := by decide +kernel
@[simp] theorem kd_ty {Cs : List Addr} {a b : String} : kitD Cs (.type a) (.type b) = kitB a b := rfl
@[simp] theorem kd_own {Cs : List Addr} {a : Addr} : kitD Cs (.ref a) (.ref a) = some true := by simp [kitD]
@[simp] theorem is_integer_v {c : Cl} {i : Int} : Gives 1 (D_is_integer c) [.int i] (.val (.bl true)) := by
  simp [Gives, D_is_integer, anyK]
theorem Meets.at : ∀ {a : Int} {ms : List Mt} {i : Nat}, Meets a ms → (hi : i < ms.length) → endOf a (ms.take i) ≤ ms[i].1 ∧ ms[i].1 < ms[i].2.1 ∧ endOf a (ms.take (i + 1)) = ms[i].2.1 ∧ a ≤ endOf a (ms.take i)
  | _, [], i, _, hi => by simp at hi
  | a, m :: ms, 0, h, _ => ⟨h.1, h.2.1, rfl, Int.le_refl _⟩
  | a, m :: ms, i + 1, h, hi => by
    obtain ⟨p, q, r, s⟩ := Meets.at (a := m.2.1) (ms := ms) (i := i) h.2.2 (by simpa using hi)
    exact ⟨p, q, r, by have := h.1; have := h.2.1; show a ≤ endOf m.2.1 (ms.take i); omega⟩
end DL
set_option linter.all false
namespace DL
open PySem
@[simp] theorem ne_step_gap : (Str.ofString "step" = Str.ofString "gap") = False := eq_false (by decide +kernel)
@[simp] theorem ne_step_least : (Str.ofString "step" = Str.ofString "least") = False := eq_false (by decide +kernel)
@[simp] theorem ne_step_private : (Str.ofString "step" = Str.ofString "private") = False := eq_false (by decide +kernel)
@[simp] theorem ne_step_hours : (Str.ofString "step" = Str.ofString "hours") = False := eq_false (by decide +kernel)
@[simp] theorem ne_step_length : (Str.ofString "step" = Str.ofString "length") = False := eq_false (by decide +kernel)
@[simp] theorem ne_step_meetings : (Str.ofString "step" = Str.ofString "meetings") = False := eq_false (by decide +kernel)
@[simp] theorem ne_step_shortest : (Str.ofString "step" = Str.ofString "shortest") = False := eq_false (by decide +kernel)
@[simp] theorem ne_step_most : (Str.ofString "step" = Str.ofString "most") = False := eq_false (by decide +kernel)
@[simp] theorem ne_step_known : (Str.ofString "step" = Str.ofString "known") = False := eq_false (by decide +kernel)
@[simp] theorem ne_step_busy : (Str.ofString "step" = Str.ofString "busy") = False := eq_false (by decide +kernel)
@[simp] theorem ne_step_none : (Str.ofString "step" = Str.ofString "none") = False := eq_false (by decide +kernel)
@[simp] theorem ne_step_apart : (Str.ofString "step" = Str.ofString "apart") = False := eq_false (by decide +kernel)
@[simp] theorem ne_step_one : (Str.ofString "step" = Str.ofString "one") = False := eq_false (by decide +kernel)
@[simp] theorem ne_gap_step : (Str.ofString "gap" = Str.ofString "step") = False := eq_false (by decide +kernel)
@[simp] theorem ne_gap_least : (Str.ofString "gap" = Str.ofString "least") = False := eq_false (by decide +kernel)
@[simp] theorem ne_gap_private : (Str.ofString "gap" = Str.ofString "private") = False := eq_false (by decide +kernel)
@[simp] theorem ne_gap_hours : (Str.ofString "gap" = Str.ofString "hours") = False := eq_false (by decide +kernel)
@[simp] theorem ne_gap_length : (Str.ofString "gap" = Str.ofString "length") = False := eq_false (by decide +kernel)
@[simp] theorem ne_gap_meetings : (Str.ofString "gap" = Str.ofString "meetings") = False := eq_false (by decide +kernel)
@[simp] theorem ne_gap_shortest : (Str.ofString "gap" = Str.ofString "shortest") = False := eq_false (by decide +kernel)
@[simp] theorem ne_gap_most : (Str.ofString "gap" = Str.ofString "most") = False := eq_false (by decide +kernel)
@[simp] theorem ne_gap_known : (Str.ofString "gap" = Str.ofString "known") = False := eq_false (by decide +kernel)
@[simp] theorem ne_gap_busy : (Str.ofString "gap" = Str.ofString "busy") = False := eq_false (by decide +kernel)
@[simp] theorem ne_gap_none : (Str.ofString "gap" = Str.ofString "none") = False := eq_false (by decide +kernel)
@[simp] theorem ne_gap_apart : (Str.ofString "gap" = Str.ofString "apart") = False := eq_false (by decide +kernel)
@[simp] theorem ne_gap_one : (Str.ofString "gap" = Str.ofString "one") = False := eq_false (by decide +kernel)
@[simp] theorem ne_least_step : (Str.ofString "least" = Str.ofString "step") = False := eq_false (by decide +kernel)
@[simp] theorem ne_least_gap : (Str.ofString "least" = Str.ofString "gap") = False := eq_false (by decide +kernel)
@[simp] theorem ne_least_private : (Str.ofString "least" = Str.ofString "private") = False := eq_false (by decide +kernel)
@[simp] theorem ne_least_hours : (Str.ofString "least" = Str.ofString "hours") = False := eq_false (by decide +kernel)
@[simp] theorem ne_least_length : (Str.ofString "least" = Str.ofString "length") = False := eq_false (by decide +kernel)
@[simp] theorem ne_least_meetings : (Str.ofString "least" = Str.ofString "meetings") = False := eq_false (by decide +kernel)
@[simp] theorem ne_least_shortest : (Str.ofString "least" = Str.ofString "shortest") = False := eq_false (by decide +kernel)
@[simp] theorem ne_least_most : (Str.ofString "least" = Str.ofString "most") = False := eq_false (by decide +kernel)
@[simp] theorem ne_least_known : (Str.ofString "least" = Str.ofString "known") = False := eq_false (by decide +kernel)
@[simp] theorem ne_least_busy : (Str.ofString "least" = Str.ofString "busy") = False := eq_false (by decide +kernel)
@[simp] theorem ne_least_none : (Str.ofString "least" = Str.ofString "none") = False := eq_false (by decide +kernel)
@[simp] theorem ne_least_apart : (Str.ofString "least" = Str.ofString "apart") = False := eq_false (by decide +kernel)
@[simp] theorem ne_least_one : (Str.ofString "least" = Str.ofString "one") = False := eq_false (by decide +kernel)
@[simp] theorem ne_private_step : (Str.ofString "private" = Str.ofString "step") = False := eq_false (by decide +kernel)
@[simp] theorem ne_private_gap : (Str.ofString "private" = Str.ofString "gap") = False := eq_false (by decide +kernel)
@[simp] theorem ne_private_least : (Str.ofString "private" = Str.ofString "least") = False := eq_false (by decide +kernel)
@[simp] theorem ne_private_hours : (Str.ofString "private" = Str.ofString "hours") = False := eq_false (by decide +kernel)
@[simp] theorem ne_private_length : (Str.ofString "private" = Str.ofString "length") = False := eq_false (by decide +kernel)
@[simp] theorem ne_private_meetings : (Str.ofString "private" = Str.ofString "meetings") = False := eq_false (by decide +kernel)
@[simp] theorem ne_private_shortest : (Str.ofString "private" = Str.ofString "shortest") = False := eq_false (by decide +kernel)
@[simp] theorem ne_private_most : (Str.ofString "private" = Str.ofString "most") = False := eq_false (by decide +kernel)
@[simp] theorem ne_private_known : (Str.ofString "private" = Str.ofString "known") = False := eq_false (by decide +kernel)
@[simp] theorem ne_private_busy : (Str.ofString "private" = Str.ofString "busy") = False := eq_false (by decide +kernel)
@[simp] theorem ne_private_none : (Str.ofString "private" = Str.ofString "none") = False := eq_false (by decide +kernel)
@[simp] theorem ne_private_apart : (Str.ofString "private" = Str.ofString "apart") = False := eq_false (by decide +kernel)
@[simp] theorem ne_private_one : (Str.ofString "private" = Str.ofString "one") = False := eq_false (by decide +kernel)
@[simp] theorem ne_hours_step : (Str.ofString "hours" = Str.ofString "step") = False := eq_false (by decide +kernel)
@[simp] theorem ne_hours_gap : (Str.ofString "hours" = Str.ofString "gap") = False := eq_false (by decide +kernel)
@[simp] theorem ne_hours_least : (Str.ofString "hours" = Str.ofString "least") = False := eq_false (by decide +kernel)
@[simp] theorem ne_hours_private : (Str.ofString "hours" = Str.ofString "private") = False := eq_false (by decide +kernel)
@[simp] theorem ne_hours_length : (Str.ofString "hours" = Str.ofString "length") = False := eq_false (by decide +kernel)
@[simp] theorem ne_hours_meetings : (Str.ofString "hours" = Str.ofString "meetings") = False := eq_false (by decide +kernel)
@[simp] theorem ne_hours_shortest : (Str.ofString "hours" = Str.ofString "shortest") = False := eq_false (by decide +kernel)
@[simp] theorem ne_hours_most : (Str.ofString "hours" = Str.ofString "most") = False := eq_false (by decide +kernel)
@[simp] theorem ne_hours_known : (Str.ofString "hours" = Str.ofString "known") = False := eq_false (by decide +kernel)
@[simp] theorem ne_hours_busy : (Str.ofString "hours" = Str.ofString "busy") = False := eq_false (by decide +kernel)
@[simp] theorem ne_hours_none : (Str.ofString "hours" = Str.ofString "none") = False := eq_false (by decide +kernel)
@[simp] theorem ne_hours_apart : (Str.ofString "hours" = Str.ofString "apart") = False := eq_false (by decide +kernel)
@[simp] theorem ne_hours_one : (Str.ofString "hours" = Str.ofString "one") = False := eq_false (by decide +kernel)
@[simp] theorem ne_length_step : (Str.ofString "length" = Str.ofString "step") = False := eq_false (by decide +kernel)
@[simp] theorem ne_length_gap : (Str.ofString "length" = Str.ofString "gap") = False := eq_false (by decide +kernel)
@[simp] theorem ne_length_least : (Str.ofString "length" = Str.ofString "least") = False := eq_false (by decide +kernel)
@[simp] theorem ne_length_private : (Str.ofString "length" = Str.ofString "private") = False := eq_false (by decide +kernel)
@[simp] theorem ne_length_hours : (Str.ofString "length" = Str.ofString "hours") = False := eq_false (by decide +kernel)
@[simp] theorem ne_length_meetings : (Str.ofString "length" = Str.ofString "meetings") = False := eq_false (by decide +kernel)
@[simp] theorem ne_length_shortest : (Str.ofString "length" = Str.ofString "shortest") = False := eq_false (by decide +kernel)
@[simp] theorem ne_length_most : (Str.ofString "length" = Str.ofString "most") = False := eq_false (by decide +kernel)
@[simp] theorem ne_length_known : (Str.ofString "length" = Str.ofString "known") = False := eq_false (by decide +kernel)
@[simp] theorem ne_length_busy : (Str.ofString "length" = Str.ofString "busy") = False := eq_false (by decide +kernel)
@[simp] theorem ne_length_none : (Str.ofString "length" = Str.ofString "none") = False := eq_false (by decide +kernel)
@[simp] theorem ne_length_apart : (Str.ofString "length" = Str.ofString "apart") = False := eq_false (by decide +kernel)
@[simp] theorem ne_length_one : (Str.ofString "length" = Str.ofString "one") = False := eq_false (by decide +kernel)
@[simp] theorem ne_meetings_step : (Str.ofString "meetings" = Str.ofString "step") = False := eq_false (by decide +kernel)
@[simp] theorem ne_meetings_gap : (Str.ofString "meetings" = Str.ofString "gap") = False := eq_false (by decide +kernel)
@[simp] theorem ne_meetings_least : (Str.ofString "meetings" = Str.ofString "least") = False := eq_false (by decide +kernel)
@[simp] theorem ne_meetings_private : (Str.ofString "meetings" = Str.ofString "private") = False := eq_false (by decide +kernel)
@[simp] theorem ne_meetings_hours : (Str.ofString "meetings" = Str.ofString "hours") = False := eq_false (by decide +kernel)
@[simp] theorem ne_meetings_length : (Str.ofString "meetings" = Str.ofString "length") = False := eq_false (by decide +kernel)
@[simp] theorem ne_meetings_shortest : (Str.ofString "meetings" = Str.ofString "shortest") = False := eq_false (by decide +kernel)
@[simp] theorem ne_meetings_most : (Str.ofString "meetings" = Str.ofString "most") = False := eq_false (by decide +kernel)
@[simp] theorem ne_meetings_known : (Str.ofString "meetings" = Str.ofString "known") = False := eq_false (by decide +kernel)
@[simp] theorem ne_meetings_busy : (Str.ofString "meetings" = Str.ofString "busy") = False := eq_false (by decide +kernel)
@[simp] theorem ne_meetings_none : (Str.ofString "meetings" = Str.ofString "none") = False := eq_false (by decide +kernel)
@[simp] theorem ne_meetings_apart : (Str.ofString "meetings" = Str.ofString "apart") = False := eq_false (by decide +kernel)
@[simp] theorem ne_meetings_one : (Str.ofString "meetings" = Str.ofString "one") = False := eq_false (by decide +kernel)
@[simp] theorem ne_shortest_step : (Str.ofString "shortest" = Str.ofString "step") = False := eq_false (by decide +kernel)
@[simp] theorem ne_shortest_gap : (Str.ofString "shortest" = Str.ofString "gap") = False := eq_false (by decide +kernel)
@[simp] theorem ne_shortest_least : (Str.ofString "shortest" = Str.ofString "least") = False := eq_false (by decide +kernel)
@[simp] theorem ne_shortest_private : (Str.ofString "shortest" = Str.ofString "private") = False := eq_false (by decide +kernel)
@[simp] theorem ne_shortest_hours : (Str.ofString "shortest" = Str.ofString "hours") = False := eq_false (by decide +kernel)
@[simp] theorem ne_shortest_length : (Str.ofString "shortest" = Str.ofString "length") = False := eq_false (by decide +kernel)
@[simp] theorem ne_shortest_meetings : (Str.ofString "shortest" = Str.ofString "meetings") = False := eq_false (by decide +kernel)
@[simp] theorem ne_shortest_most : (Str.ofString "shortest" = Str.ofString "most") = False := eq_false (by decide +kernel)
@[simp] theorem ne_shortest_known : (Str.ofString "shortest" = Str.ofString "known") = False := eq_false (by decide +kernel)
@[simp] theorem ne_shortest_busy : (Str.ofString "shortest" = Str.ofString "busy") = False := eq_false (by decide +kernel)
@[simp] theorem ne_shortest_none : (Str.ofString "shortest" = Str.ofString "none") = False := eq_false (by decide +kernel)
@[simp] theorem ne_shortest_apart : (Str.ofString "shortest" = Str.ofString "apart") = False := eq_false (by decide +kernel)
@[simp] theorem ne_shortest_one : (Str.ofString "shortest" = Str.ofString "one") = False := eq_false (by decide +kernel)
@[simp] theorem ne_most_step : (Str.ofString "most" = Str.ofString "step") = False := eq_false (by decide +kernel)
@[simp] theorem ne_most_gap : (Str.ofString "most" = Str.ofString "gap") = False := eq_false (by decide +kernel)
@[simp] theorem ne_most_least : (Str.ofString "most" = Str.ofString "least") = False := eq_false (by decide +kernel)
@[simp] theorem ne_most_private : (Str.ofString "most" = Str.ofString "private") = False := eq_false (by decide +kernel)
@[simp] theorem ne_most_hours : (Str.ofString "most" = Str.ofString "hours") = False := eq_false (by decide +kernel)
@[simp] theorem ne_most_length : (Str.ofString "most" = Str.ofString "length") = False := eq_false (by decide +kernel)
@[simp] theorem ne_most_meetings : (Str.ofString "most" = Str.ofString "meetings") = False := eq_false (by decide +kernel)
@[simp] theorem ne_most_shortest : (Str.ofString "most" = Str.ofString "shortest") = False := eq_false (by decide +kernel)
@[simp] theorem ne_most_known : (Str.ofString "most" = Str.ofString "known") = False := eq_false (by decide +kernel)
@[simp] theorem ne_most_busy : (Str.ofString "most" = Str.ofString "busy") = False := eq_false (by decide +kernel)
@[simp] theorem ne_most_none : (Str.ofString "most" = Str.ofString "none") = False := eq_false (by decide +kernel)
@[simp] theorem ne_most_apart : (Str.ofString "most" = Str.ofString "apart") = False := eq_false (by decide +kernel)
@[simp] theorem ne_most_one : (Str.ofString "most" = Str.ofString "one") = False := eq_false (by decide +kernel)
@[simp] theorem ne_known_step : (Str.ofString "known" = Str.ofString "step") = False := eq_false (by decide +kernel)
@[simp] theorem ne_known_gap : (Str.ofString "known" = Str.ofString "gap") = False := eq_false (by decide +kernel)
@[simp] theorem ne_known_least : (Str.ofString "known" = Str.ofString "least") = False := eq_false (by decide +kernel)
@[simp] theorem ne_known_private : (Str.ofString "known" = Str.ofString "private") = False := eq_false (by decide +kernel)
@[simp] theorem ne_known_hours : (Str.ofString "known" = Str.ofString "hours") = False := eq_false (by decide +kernel)
@[simp] theorem ne_known_length : (Str.ofString "known" = Str.ofString "length") = False := eq_false (by decide +kernel)
@[simp] theorem ne_known_meetings : (Str.ofString "known" = Str.ofString "meetings") = False := eq_false (by decide +kernel)
@[simp] theorem ne_known_shortest : (Str.ofString "known" = Str.ofString "shortest") = False := eq_false (by decide +kernel)
@[simp] theorem ne_known_most : (Str.ofString "known" = Str.ofString "most") = False := eq_false (by decide +kernel)
@[simp] theorem ne_known_busy : (Str.ofString "known" = Str.ofString "busy") = False := eq_false (by decide +kernel)
@[simp] theorem ne_known_none : (Str.ofString "known" = Str.ofString "none") = False := eq_false (by decide +kernel)
@[simp] theorem ne_known_apart : (Str.ofString "known" = Str.ofString "apart") = False := eq_false (by decide +kernel)
@[simp] theorem ne_known_one : (Str.ofString "known" = Str.ofString "one") = False := eq_false (by decide +kernel)
@[simp] theorem ne_busy_step : (Str.ofString "busy" = Str.ofString "step") = False := eq_false (by decide +kernel)
@[simp] theorem ne_busy_gap : (Str.ofString "busy" = Str.ofString "gap") = False := eq_false (by decide +kernel)
@[simp] theorem ne_busy_least : (Str.ofString "busy" = Str.ofString "least") = False := eq_false (by decide +kernel)
@[simp] theorem ne_busy_private : (Str.ofString "busy" = Str.ofString "private") = False := eq_false (by decide +kernel)
@[simp] theorem ne_busy_hours : (Str.ofString "busy" = Str.ofString "hours") = False := eq_false (by decide +kernel)
@[simp] theorem ne_busy_length : (Str.ofString "busy" = Str.ofString "length") = False := eq_false (by decide +kernel)
@[simp] theorem ne_busy_meetings : (Str.ofString "busy" = Str.ofString "meetings") = False := eq_false (by decide +kernel)
@[simp] theorem ne_busy_shortest : (Str.ofString "busy" = Str.ofString "shortest") = False := eq_false (by decide +kernel)
@[simp] theorem ne_busy_most : (Str.ofString "busy" = Str.ofString "most") = False := eq_false (by decide +kernel)
@[simp] theorem ne_busy_known : (Str.ofString "busy" = Str.ofString "known") = False := eq_false (by decide +kernel)
@[simp] theorem ne_busy_none : (Str.ofString "busy" = Str.ofString "none") = False := eq_false (by decide +kernel)
@[simp] theorem ne_busy_apart : (Str.ofString "busy" = Str.ofString "apart") = False := eq_false (by decide +kernel)
@[simp] theorem ne_busy_one : (Str.ofString "busy" = Str.ofString "one") = False := eq_false (by decide +kernel)
@[simp] theorem ne_none_step : (Str.ofString "none" = Str.ofString "step") = False := eq_false (by decide +kernel)
@[simp] theorem ne_none_gap : (Str.ofString "none" = Str.ofString "gap") = False := eq_false (by decide +kernel)
@[simp] theorem ne_none_least : (Str.ofString "none" = Str.ofString "least") = False := eq_false (by decide +kernel)
@[simp] theorem ne_none_private : (Str.ofString "none" = Str.ofString "private") = False := eq_false (by decide +kernel)
@[simp] theorem ne_none_hours : (Str.ofString "none" = Str.ofString "hours") = False := eq_false (by decide +kernel)
@[simp] theorem ne_none_length : (Str.ofString "none" = Str.ofString "length") = False := eq_false (by decide +kernel)
@[simp] theorem ne_none_meetings : (Str.ofString "none" = Str.ofString "meetings") = False := eq_false (by decide +kernel)
@[simp] theorem ne_none_shortest : (Str.ofString "none" = Str.ofString "shortest") = False := eq_false (by decide +kernel)
@[simp] theorem ne_none_most : (Str.ofString "none" = Str.ofString "most") = False := eq_false (by decide +kernel)
@[simp] theorem ne_none_known : (Str.ofString "none" = Str.ofString "known") = False := eq_false (by decide +kernel)
@[simp] theorem ne_none_busy : (Str.ofString "none" = Str.ofString "busy") = False := eq_false (by decide +kernel)
@[simp] theorem ne_none_apart : (Str.ofString "none" = Str.ofString "apart") = False := eq_false (by decide +kernel)
@[simp] theorem ne_none_one : (Str.ofString "none" = Str.ofString "one") = False := eq_false (by decide +kernel)
@[simp] theorem ne_apart_step : (Str.ofString "apart" = Str.ofString "step") = False := eq_false (by decide +kernel)
@[simp] theorem ne_apart_gap : (Str.ofString "apart" = Str.ofString "gap") = False := eq_false (by decide +kernel)
@[simp] theorem ne_apart_least : (Str.ofString "apart" = Str.ofString "least") = False := eq_false (by decide +kernel)
@[simp] theorem ne_apart_private : (Str.ofString "apart" = Str.ofString "private") = False := eq_false (by decide +kernel)
@[simp] theorem ne_apart_hours : (Str.ofString "apart" = Str.ofString "hours") = False := eq_false (by decide +kernel)
@[simp] theorem ne_apart_length : (Str.ofString "apart" = Str.ofString "length") = False := eq_false (by decide +kernel)
@[simp] theorem ne_apart_meetings : (Str.ofString "apart" = Str.ofString "meetings") = False := eq_false (by decide +kernel)
@[simp] theorem ne_apart_shortest : (Str.ofString "apart" = Str.ofString "shortest") = False := eq_false (by decide +kernel)
@[simp] theorem ne_apart_most : (Str.ofString "apart" = Str.ofString "most") = False := eq_false (by decide +kernel)
@[simp] theorem ne_apart_known : (Str.ofString "apart" = Str.ofString "known") = False := eq_false (by decide +kernel)
@[simp] theorem ne_apart_busy : (Str.ofString "apart" = Str.ofString "busy") = False := eq_false (by decide +kernel)
@[simp] theorem ne_apart_none : (Str.ofString "apart" = Str.ofString "none") = False := eq_false (by decide +kernel)
@[simp] theorem ne_apart_one : (Str.ofString "apart" = Str.ofString "one") = False := eq_false (by decide +kernel)
@[simp] theorem ne_one_step : (Str.ofString "one" = Str.ofString "step") = False := eq_false (by decide +kernel)
@[simp] theorem ne_one_gap : (Str.ofString "one" = Str.ofString "gap") = False := eq_false (by decide +kernel)
@[simp] theorem ne_one_least : (Str.ofString "one" = Str.ofString "least") = False := eq_false (by decide +kernel)
@[simp] theorem ne_one_private : (Str.ofString "one" = Str.ofString "private") = False := eq_false (by decide +kernel)
@[simp] theorem ne_one_hours : (Str.ofString "one" = Str.ofString "hours") = False := eq_false (by decide +kernel)
@[simp] theorem ne_one_length : (Str.ofString "one" = Str.ofString "length") = False := eq_false (by decide +kernel)
@[simp] theorem ne_one_meetings : (Str.ofString "one" = Str.ofString "meetings") = False := eq_false (by decide +kernel)
@[simp] theorem ne_one_shortest : (Str.ofString "one" = Str.ofString "shortest") = False := eq_false (by decide +kernel)
@[simp] theorem ne_one_most : (Str.ofString "one" = Str.ofString "most") = False := eq_false (by decide +kernel)
@[simp] theorem ne_one_known : (Str.ofString "one" = Str.ofString "known") = False := eq_false (by decide +kernel)
@[simp] theorem ne_one_busy : (Str.ofString "one" = Str.ofString "busy") = False := eq_false (by decide +kernel)
@[simp] theorem ne_one_none : (Str.ofString "one" = Str.ofString "none") = False := eq_false (by decide +kernel)
@[simp] theorem ne_one_apart : (Str.ofString "one" = Str.ofString "apart") = False := eq_false (by decide +kernel)
@[simp] theorem ne_but_step : (Str.ofString "but" = Str.ofString "step") = False := eq_false (by decide +kernel)
@[simp] theorem ne_but_gap : (Str.ofString "but" = Str.ofString "gap") = False := eq_false (by decide +kernel)
@[simp] theorem ne_but_least : (Str.ofString "but" = Str.ofString "least") = False := eq_false (by decide +kernel)
@[simp] theorem ne_but_private : (Str.ofString "but" = Str.ofString "private") = False := eq_false (by decide +kernel)
@[simp] theorem ne_but_hours : (Str.ofString "but" = Str.ofString "hours") = False := eq_false (by decide +kernel)
@[simp] theorem ne_but_length : (Str.ofString "but" = Str.ofString "length") = False := eq_false (by decide +kernel)
@[simp] theorem ne_but_meetings : (Str.ofString "but" = Str.ofString "meetings") = False := eq_false (by decide +kernel)
@[simp] theorem ne_but_shortest : (Str.ofString "but" = Str.ofString "shortest") = False := eq_false (by decide +kernel)
@[simp] theorem ne_but_most : (Str.ofString "but" = Str.ofString "most") = False := eq_false (by decide +kernel)
@[simp] theorem ne_but_known : (Str.ofString "but" = Str.ofString "known") = False := eq_false (by decide +kernel)
@[simp] theorem ne_without_step : (Str.ofString "without" = Str.ofString "step") = False := eq_false (by decide +kernel)
@[simp] theorem ne_without_gap : (Str.ofString "without" = Str.ofString "gap") = False := eq_false (by decide +kernel)
@[simp] theorem ne_without_least : (Str.ofString "without" = Str.ofString "least") = False := eq_false (by decide +kernel)
@[simp] theorem ne_without_private : (Str.ofString "without" = Str.ofString "private") = False := eq_false (by decide +kernel)
@[simp] theorem ne_without_hours : (Str.ofString "without" = Str.ofString "hours") = False := eq_false (by decide +kernel)
@[simp] theorem ne_without_length : (Str.ofString "without" = Str.ofString "length") = False := eq_false (by decide +kernel)
@[simp] theorem ne_without_meetings : (Str.ofString "without" = Str.ofString "meetings") = False := eq_false (by decide +kernel)
@[simp] theorem ne_without_shortest : (Str.ofString "without" = Str.ofString "shortest") = False := eq_false (by decide +kernel)
@[simp] theorem ne_without_most : (Str.ofString "without" = Str.ofString "most") = False := eq_false (by decide +kernel)
@[simp] theorem ne_without_known : (Str.ofString "without" = Str.ofString "known") = False := eq_false (by decide +kernel)
@[simp] theorem ne_having_step : (Str.ofString "having" = Str.ofString "step") = False := eq_false (by decide +kernel)
@[simp] theorem ne_having_gap : (Str.ofString "having" = Str.ofString "gap") = False := eq_false (by decide +kernel)
@[simp] theorem ne_having_least : (Str.ofString "having" = Str.ofString "least") = False := eq_false (by decide +kernel)
@[simp] theorem ne_having_private : (Str.ofString "having" = Str.ofString "private") = False := eq_false (by decide +kernel)
@[simp] theorem ne_having_hours : (Str.ofString "having" = Str.ofString "hours") = False := eq_false (by decide +kernel)
@[simp] theorem ne_having_length : (Str.ofString "having" = Str.ofString "length") = False := eq_false (by decide +kernel)
@[simp] theorem ne_having_meetings : (Str.ofString "having" = Str.ofString "meetings") = False := eq_false (by decide +kernel)
@[simp] theorem ne_having_shortest : (Str.ofString "having" = Str.ofString "shortest") = False := eq_false (by decide +kernel)
@[simp] theorem ne_having_most : (Str.ofString "having" = Str.ofString "most") = False := eq_false (by decide +kernel)
@[simp] theorem ne_having_known : (Str.ofString "having" = Str.ofString "known") = False := eq_false (by decide +kernel)
@[simp] theorem ne_knowing_step : (Str.ofString "knowing" = Str.ofString "step") = False := eq_false (by decide +kernel)
@[simp] theorem ne_knowing_gap : (Str.ofString "knowing" = Str.ofString "gap") = False := eq_false (by decide +kernel)
@[simp] theorem ne_knowing_least : (Str.ofString "knowing" = Str.ofString "least") = False := eq_false (by decide +kernel)
@[simp] theorem ne_knowing_private : (Str.ofString "knowing" = Str.ofString "private") = False := eq_false (by decide +kernel)
@[simp] theorem ne_knowing_hours : (Str.ofString "knowing" = Str.ofString "hours") = False := eq_false (by decide +kernel)
@[simp] theorem ne_knowing_length : (Str.ofString "knowing" = Str.ofString "length") = False := eq_false (by decide +kernel)
@[simp] theorem ne_knowing_meetings : (Str.ofString "knowing" = Str.ofString "meetings") = False := eq_false (by decide +kernel)
@[simp] theorem ne_knowing_shortest : (Str.ofString "knowing" = Str.ofString "shortest") = False := eq_false (by decide +kernel)
@[simp] theorem ne_knowing_most : (Str.ofString "knowing" = Str.ofString "most") = False := eq_false (by decide +kernel)
@[simp] theorem ne_knowing_known : (Str.ofString "knowing" = Str.ofString "known") = False := eq_false (by decide +kernel)
@[simp] theorem ne_lets_step : (Str.ofString "lets" = Str.ofString "step") = False := eq_false (by decide +kernel)
@[simp] theorem ne_lets_gap : (Str.ofString "lets" = Str.ofString "gap") = False := eq_false (by decide +kernel)
@[simp] theorem ne_lets_least : (Str.ofString "lets" = Str.ofString "least") = False := eq_false (by decide +kernel)
@[simp] theorem ne_lets_private : (Str.ofString "lets" = Str.ofString "private") = False := eq_false (by decide +kernel)
@[simp] theorem ne_lets_hours : (Str.ofString "lets" = Str.ofString "hours") = False := eq_false (by decide +kernel)
@[simp] theorem ne_lets_length : (Str.ofString "lets" = Str.ofString "length") = False := eq_false (by decide +kernel)
@[simp] theorem ne_lets_meetings : (Str.ofString "lets" = Str.ofString "meetings") = False := eq_false (by decide +kernel)
@[simp] theorem ne_lets_shortest : (Str.ofString "lets" = Str.ofString "shortest") = False := eq_false (by decide +kernel)
@[simp] theorem ne_lets_most : (Str.ofString "lets" = Str.ofString "most") = False := eq_false (by decide +kernel)
@[simp] theorem ne_lets_known : (Str.ofString "lets" = Str.ofString "known") = False := eq_false (by decide +kernel)
end DL
set_option linter.all false
set_option maxRecDepth 100000
set_option maxHeartbeats 1000000
namespace DL
open PySem PySem.Spec PyProof.Rows L2 DD
theorem pyEq_s {a b : Str} : pyEq (.str a) (.str b) = decide (a = b) := by
  show PyData.eqv (.str a) (.str b) = _
  simp [PyData.eqv]
  try rfl
theorem inD_s {s : Str} {xs : List Str} : inD (.str s) (xs.map D.str) = decide (s ∈ xs) := by
  induction xs with
  | nil => rfl
  | cons x xs ih =>
    rw [List.map_cons]
    show (pyEq (.str x) (.str s) || inD (.str s) (xs.map D.str)) = _
    rw [ih, pyEq_s]
    by_cases h : x = s
    · simp [h]
    · have h' : ¬ s = x := fun e => h e.symm
      simp [h, h']
theorem flat_s {xs : List Str} : (xs.map D.str).all D.flat = true := by simp [D.flat]
theorem in_strs {s : Str} {xs : List Str} : opInB (.str s) (.tup (xs.map D.str)) = some (decide (s ∈ xs)) := by
  show (if _ then some (inD (.str s) (xs.map D.str)) else _) = _
  rw [if_pos ⟨rfl, flat_s⟩, inD_s]
@[simp] theorem in_s4 {s a b c d : Str} : opInB (.str s) (.tup [.str a, .str b, .str c, .str d]) = some (decide (s ∈ [a, b, c, d])) := in_strs (xs := [a, b, c, d])
@[simp] theorem in_s2 {s a b : Str} : opInB (.str s) (.tup [.str a, .str b]) = some (decide (s ∈ [a, b])) := in_strs (xs := [a, b])
end DL
set_option linter.all false
set_option maxRecDepth 100000
set_option maxHeartbeats 1000000
namespace DL
open PySem PySem.Spec PyProof.Rows L2 DD
@[simp] theorem atI_zero {α : Type} {a : α} {L : List α} : atI (a :: L) 0 = some a := by
  have : (0 : Int) < (L.length : Int) + 1 := by omega
  simp [atI, ixN, this]
@[simp] theorem atI_one {α : Type} {a b : α} {L : List α} : atI (a :: b :: L) 1 = some b := by
  have : (1 : Int) < (L.length : Int) + 1 + 1 := by omega
  simp [atI, ixN, this]
@[simp] theorem atI_two {α : Type} {a b d : α} {L : List α} : atI (a :: b :: d :: L) 2 = some d := by
  have : (2 : Int) < (L.length : Int) + 1 + 1 + 1 := by omega
  simp [atI, ixN, this]
@[simp] theorem atI_three {α : Type} {a b d e : α} {L : List α} : atI (a :: b :: d :: e :: L) 3 = some e := by
  have : (3 : Int) < (L.length : Int) + 1 + 1 + 1 + 1 := by omega
  simp [atI, ixN, this]
@[simp] theorem atI_four {α : Type} {a b d e f : α} {L : List α} : atI (a :: b :: d :: e :: f :: L) 4 = some f := by
  have : (4 : Int) < (L.length : Int) + 1 + 1 + 1 + 1 + 1 := by omega
  simp [atI, ixN, this]
@[simp] theorem ixN_last {n : Nat} : ixN (n + 1) (-1) = some n := by
  have h1 : ¬ (0 : Int) ≤ -1 := by omega
  have h3 : (1 : Int) ≤ (n : Int) + 1 := by omega
  have h4 : (-1 + ((n : Int) + 1)).toNat = n := by omega
  simp [ixN, h3, h4]
@[simp] theorem atI_last {α : Type} {a : α} {L : List α} : atI (L ++ [a]) (-1) = some a := by
  unfold atI
  rw [List.length_append, List.length_singleton, ixN_last]
  simp
@[simp] theorem set_last {α : Type} {a b : α} {L : List α} : (L ++ [a]).set L.length b = L ++ [b] := by
  simp
/-- things that can be sorted -/
structure Bord {β : Type} (enc : β → D) (key : β → PyData) : Prop where
  py : ∀ b, (enc b).py = some (key b)
  inj : ∀ a b, PySem.W.keyToks (key a) = PySem.W.keyToks (key b) → a = b
  al : ∀ a b, PySem.W.alike (key a) (key b) = true
  tup : ∀ a, ∃ x r, key a = .tuple (x :: r)
  pl : ∀ a, (key a).plain = true
  dp : ∀ a, (key a).depth ≤ 50
  lt : ∀ a b, opLt (enc a) (enc b) = opLtD (enc a) (enc b)
  cl : ∀ a, (key a).canLay0 = true
section
variable {β : Type} {enc : β → D} {key : β → PyData}
theorem Bord.eqv (o : Bord enc key) {a b : β} : PyData.eqv (key a) (key b) = true ↔ a = b := by
  refine ⟨fun h => o.inj a b ((PySem.W.toks_eqv _ _ (o.al a b)).1 h), ?_⟩
  rintro rfl
  exact PySem.W.eqv_refl_alike _ (o.al a a)
theorem Bord.pyA (o : Bord enc key) : ∀ L : List β, D.pyA (L.map enc) = some (L.map key)
  | [] => rfl
  | a :: L => by
    rw [List.map_cons, List.map_cons]
    simp only [D.pyA, o.py, o.pyA L]
@[simp] theorem eqB_nil : eqB (.lst []) (.lst []) = some true := rfl
end
def wd (p : Bool) : Str := if p then "private" else "busy"
@[simp] theorem wd_t : wd true = "private" := rfl
@[simp] theorem wd_f : wd false = "busy" := rfl
end DL
set_option linter.all false
set_option maxRecDepth 100000
set_option maxHeartbeats 1000000
namespace DL
open PySem PySem.Spec PyProof.Rows L2 DD
end DL
set_option linter.all false
set_option maxRecDepth 100000
set_option maxHeartbeats 1000000
namespace DL
open PySem PySem.Spec PyProof.Rows L2 DD
def dn (t s : Int) : Int := t / s * s
def up (t s : Int) : Int := (t + s - 1) / s * s
end DL
set_option linter.all false
set_option maxRecDepth 100000
set_option maxHeartbeats 1000000
namespace DL
open PySem PySem.Spec PyProof.Rows L2 DD
def isJ (r : Ru) (w : Bool) (e b : Int) : Prop := (w = true ∧ r.p = "one") ∨ b - e ≤ r.g
instance {r : Ru} {w : Bool} {e b : Int} : Decidable (isJ r w e b) := by
  unfold isJ
  infer_instance
end DL
set_option linter.all false
set_option maxRecDepth 100000
set_option maxHeartbeats 1000000
namespace DL
open PySem PySem.Spec PyProof.Rows L2 DD
end DL
set_option linter.all false
set_option maxRecDepth 100000
set_option maxHeartbeats 1000000
namespace DL
open PySem PySem.Spec PyProof.Rows L2 DD
def tk (b e : Int) : List Int := (List.range (e - b).toNat).map fun n => b + (n : Nat)
def flat (J : List (Int × Int)) : List Int := J.flatMap fun x => tk x.1 x.2
/-- spans in their order, not touching, up to a tick -/
structure Spc (a : Int) (J : List (Int × Int)) : Prop where
  one : ∀ x ∈ J, 0 ≤ x.1 ∧ x.1 < x.2 ∧ x.2 ≤ a
  two : J.Pairwise fun x y => x.2 < y.1
theorem Spc.nil {a : Int} : Spc a [] := ⟨fun x h => by simp at h, .nil⟩
theorem Spc.mono {a b : Int} {J : List (Int × Int)} (h : Spc a J) (hb : a ≤ b) : Spc b J := ⟨fun x hx => by have := h.one x hx; omega, h.two⟩
end DL
set_option linter.all false
set_option maxRecDepth 100000
set_option maxHeartbeats 1000000
namespace DL
open PySem PySem.Spec PyProof.Rows L2 DD
end DL
set_option linter.all false
set_option maxRecDepth 100000
set_option maxHeartbeats 1000000
namespace DL
open PySem PySem.Spec PyProof.Rows L2 DD
end DL
set_option linter.all false
set_option maxRecDepth 100000
set_option maxHeartbeats 1000000
namespace DL
open PySem PySem.Spec PyProof.Rows L2 DD
end DL
set_option linter.all false
set_option maxRecDepth 100000
set_option maxHeartbeats 1000000
namespace DL
open PySem PySem.Spec PyProof.Rows L2 DD
def In (i : Int) : Prop := 0 ≤ i ∧ i ≤ 1100
/-- the text of a number -/
def iT (i : Int) : Str := Str.ofString (toString i)
@[simp] theorem iT_r {i : Int} : Str.ofString i.repr = iT i := rfl
@[simp] theorem iT_s {i : Int} : Str.ofString (toString i) = iT i := rfl
theorem In.len {i : Int} (h : In i) : (iT i).length ≤ 5 := by
  have e := int_text_length_le10 (a := i) (k := 4) (by decide) (by have := h.1; have := h.2; omega)
  show (Str.ofString (toString i)).length ≤ 5
  rw [PySem.ofString_length]
  omega
@[simp] theorem e_app {x : Str} : Str.empty ++ x = x := Str.empty_append x
@[simp] theorem app_e {x : Str} : x ++ Str.ofString "" = x := Str.append_empty x
@[simp] theorem l_dash : (Str.ofString "-").length = 1 := by decide +kernel
@[simp] theorem l_priv : (Str.ofString " private").length = 8 := by decide +kernel
@[simp] theorem l_nil : (Str.ofString "").length = 0 := by decide +kernel
@[simp] theorem l_colon : (Str.ofString ": ").length = 2 := by decide +kernel
@[simp] theorem l_comma : (Str.ofString ", ").length = 2 := by decide +kernel
@[simp] theorem l_sp : (Str.ofString " ").length = 1 := by decide +kernel
end DL
set_option linter.all false
set_option maxRecDepth 100000
set_option maxHeartbeats 1000000
namespace DL
open PySem PySem.Spec PyProof.Rows L2 DD
@[simp] theorem l_hours : (Str.ofString " hours ").length = 7 := by decide +kernel
@[simp] theorem l_step : (Str.ofString "step ").length = 5 := by decide +kernel
@[simp] theorem l_gap : (Str.ofString " gap ").length = 5 := by decide +kernel
@[simp] theorem l_least : (Str.ofString " least ").length = 7 := by decide +kernel
@[simp] theorem l_private : (Str.ofString " private ").length = 9 := by decide +kernel
/-- rules whose numbers are small -/
structure RuT (r : Ru) : Prop where
  s : In r.s
  g : In r.g
  l : In r.l
  p : r.p.length ≤ 5
  h : ∀ x, r.h = some x → In x.1 ∧ In x.2
theorem RuOk.t {r : Ru} (h : RuOk r) : RuT r := by
  have h1 := h.s
  have h2 := h.g
  have h3 := h.l
  refine ⟨⟨by omega, by omega⟩, ⟨by omega, by omega⟩, ⟨by omega, by omega⟩, ?_, fun x e => ?_⟩
  · have := h.p
    simp at this
    rcases this with e | e | e | e <;> rw [e] <;> decide +kernel
  · have := h.h x e
    exact ⟨⟨by omega, by omega⟩, ⟨by omega, by omega⟩⟩
end DL
set_option linter.all false
set_option maxRecDepth 100000
set_option maxHeartbeats 1000000
namespace DL
open PySem PySem.Spec PyProof.Rows L2 DD
end DL
set_option linter.all false
set_option maxRecDepth 100000
set_option maxHeartbeats 1000000
namespace DL
open PySem PySem.Spec PyProof.Rows L2 DD
theorem eqB_lst {ds es : List D} {ps qs : List PyData} (h1 : D.pyA ds = some ps) (h2 : D.pyA es = some qs) (s1 : SeqAt.shaped (.list ps) = true) (s2 : SeqAt.shaped (.list qs) = true) : eqB (.lst ds) (.lst es) = some (PyData.eqvAll ps qs) := by
  have e1 : (D.lst ds).py = some (.list ps) := by simp only [D.py, h1, Option.map]
  have e2 : (D.lst es).py = some (.list qs) := by simp only [D.py, h2, Option.map]
  show (match (D.lst ds).py, (D.lst es).py with
    | some p, some q => if SeqAt.shaped p = true ∧ SeqAt.shaped q = true then some (PyData.eqv p q) else none
    | _, _ => match D.lst ds, D.lst es with
      | .lst ds, .lst es => if ds.length = es.length then none else some false
      | _, _ => none) = _
  rw [e1, e2]
  show (if SeqAt.shaped (.list ps) = true ∧ SeqAt.shaped (.list qs) = true then some (PyData.eqv (.list ps) (.list qs)) else none) = _
  rw [if_pos ⟨s1, s2⟩, PyData.eqv]
theorem sh_b4 {a b c d : Bool} : SeqAt.shaped (.list [.bool a, .bool b, .bool c, .bool d]) = true := by
  simp [SeqAt.shaped, PyData.canLay0, PyData.canLayAll0, PyData.depth, PyData.depthAll]
@[simp] theorem eq_b4 {a b c d a' b' c' d' : Bool} : eqB (.lst [.bl a, .bl b, .bl c, .bl d]) (.lst [.bl a', .bl b', .bl c', .bl d']) = some (decide (a = a' ∧ b = b' ∧ c = c' ∧ d = d')) := by
  rw [eqB_lst (ps := [.bool a, .bool b, .bool c, .bool d]) (qs := [.bool a', .bool b', .bool c', .bool d']) rfl rfl sh_b4 sh_b4]
  cases a <;> cases b <;> cases c <;> cases d <;> cases a' <;> cases b' <;> cases c' <;> cases d' <;> rfl
def w4 (p : Str) : Prop := p ∈ (["busy", "none", "apart", "one"] : List Str)
theorem Ru.ext {a b : Ru} (h1 : a.s = b.s) (h2 : a.g = b.g) (h3 : a.l = b.l) (h4 : a.p = b.p) (h5 : a.h = b.h) : a = b := by
  cases a; cases b
  cases h1; cases h2; cases h3; cases h4; cases h5
  rfl
instance : DecidableEq Ru := fun a b => if h : a.s = b.s ∧ a.g = b.g ∧ a.l = b.l ∧ a.p = b.p ∧ a.h = b.h then .isTrue (Ru.ext h.1 h.2.1 h.2.2.1 h.2.2.2.1 h.2.2.2.2) else .isFalse fun e => h (by subst e; exact ⟨rfl, rfl, rfl, rfl, rfl⟩)
end DL
set_option linter.all false
set_option maxRecDepth 100000
set_option maxHeartbeats 1000000
namespace DL
open PySem PySem.Spec PyProof.Rows L2 DD
/-- a number that a text can have -/
def Sm (i : Int) : Prop := 0 ≤ i ∧ i ≤ 99
theorem Sm.in {i : Int} (h : Sm i) : In i := ⟨h.1, by have := h.2; omega⟩
/-- numbers that are read again -/
structure RuS (r : Ru) : Prop where
  s : Sm r.s
  g : Sm r.g
  l : Sm r.l
  p : w4 r.p
  h : ∀ x, r.h = some x → Sm x.1 ∧ Sm x.2
theorem w4_len {p : Str} (h : w4 p) : p.length ≤ 5 := by
  simp [w4] at h
  rcases h with rfl | rfl | rfl | rfl <;> decide +kernel
theorem RuS.t {r : Ru} (h : RuS r) : RuT r := ⟨h.s.in, h.g.in, h.l.in, w4_len h.p, fun x e => ⟨(h.h x e).1.in, (h.h x e).2.in⟩⟩
@[simp] theorem q_dSl3 {st : Int} {A : En → Res X} {L U : En → Res (Option Int)} {ρ : En} : dSl3 st A L U ρ = ((A ρ).bind fun a ρ1 => (L ρ1).bind fun lo ρ2 => (U ρ2).bind fun hi ρ3 => match deref ρ3 a.settle with
  | some d => lift (opSl3 st d lo hi) ρ3
  | none => .stuck) := rfl
@[simp] theorem q_dEqOS {C : Addr} {m : Nat} {T : En → SR} {A B : En → Res X} {ρ : En} : dEqOS C m T A B ρ = ((A ρ).bind fun a ρ1 => (B ρ1).bind fun b ρ2 => match toVal ρ2 a.settle with
  | some (.ins C' ks es, ρ3) => match toVal ρ3 b.settle with
    | some (.str z, ρ4) => if C' = C then callP xBl (fin (T (env0 m [.val (D.ins C' ks es), .val (D.str z)]))) ρ4 else .stuck
    | _ => .stuck
  | _ => .stuck) := rfl
end DL
set_option linter.all false
set_option maxRecDepth 100000
set_option maxHeartbeats 1000000
namespace DL
open PySem PySem.Spec PyProof.Rows L2 DD
end DL
set_option linter.all false
set_option maxRecDepth 100000
set_option maxHeartbeats 1000000
namespace DL
open PySem PySem.Spec PyProof.Rows L2 DD
end DL
set_option linter.all false
set_option maxRecDepth 100000
set_option maxHeartbeats 1000000
namespace DL
open PySem PySem.Spec PyProof.Rows L2 DD
end DL
set_option linter.all false
set_option maxRecDepth 100000
set_option maxHeartbeats 1000000
namespace DL
open PySem PySem.Spec PyProof.Rows L2 DD
end DL
set_option linter.all false
set_option maxRecDepth 100000
set_option maxHeartbeats 1000000
namespace DL
open PySem PySem.Spec PyProof.Rows L2 DD
abbrev SPC : Str := " "
abbrev Jn (l : List Str) : Str := Str.join SPC l
def Rj (l l' : List Str) : Prop := (l = [] ↔ l' = []) ∧ Jn l = Jn l'
theorem Rj.refl (l : List Str) : Rj l l := ⟨Iff.rfl, rfl⟩
theorem Rj.cons {l l' : List Str} (x : Str) (r : Rj l l') : Rj (x :: l) (x :: l') := by
  refine ⟨by simp, ?_⟩
  obtain ⟨r1, r2⟩ := r
  cases l with
  | nil =>
    obtain rfl := r1.mp rfl
    rfl
  | cons y l =>
    cases l' with
    | nil => exact absurd (r1.mpr rfl) (by simp)
    | cons y' l' =>
      show x ++ SPC ++ Jn (y :: l) = x ++ SPC ++ Jn (y' :: l')
      rw [r2]
end DL
set_option linter.all false
set_option maxRecDepth 100000
set_option maxHeartbeats 1000000
namespace DL
open PySem PySem.Spec PyProof.Rows L2 DD
@[simp] theorem q_dRng3 {T : En → Res (List X)} {ρ : En} : dRng3 T ρ = ((T ρ).bind fun xs ρ1 => lift ((derefs ρ1 xs).bind rng3D) ρ1) := rfl
end DL
set_option linter.all false
set_option maxRecDepth 100000
set_option maxHeartbeats 2000000
namespace DL
open PySem PySem.Spec PyProof.Rows L2 DD
end DL
set_option linter.all false
set_option maxRecDepth 100000
set_option maxHeartbeats 2000000
namespace DL
open PySem PySem.Spec PyProof.Rows L2 DD
end DL
set_option linter.all false
set_option maxRecDepth 100000
set_option maxHeartbeats 2000000
namespace DL
open PySem PySem.Spec PyProof.Rows L2 DD
end DL
set_option linter.all false
set_option maxRecDepth 100000
set_option maxHeartbeats 1000000
namespace DL
open PySem PySem.Spec PyProof.Rows L2 DD
end DL
set_option linter.all false
set_option maxRecDepth 100000
set_option maxHeartbeats 1000000
namespace DL
open PySem PySem.Spec PyProof.Rows L2 DD
end DL
set_option linter.all false
set_option maxRecDepth 100000
set_option maxHeartbeats 1000000
namespace DL
open PySem PySem.Spec PyProof.Rows L2 DD
end DL
set_option linter.all false
set_option maxRecDepth 100000
set_option maxHeartbeats 1000000
namespace DL
open PySem PySem.Spec PyProof.Rows L2 DD
end DL
set_option linter.all false
set_option maxRecDepth 100000
set_option maxHeartbeats 1000000
namespace DL
open PySem PySem.Spec PyProof.Rows L2 DD
def Wi (J : List (Int × Int)) (y : Int × Int) : Prop := ∃ z ∈ J, z.1 ≤ y.1 ∧ y.2 ≤ z.2
theorem Wi.ext {I : List (Int × Int)} {z x y : Int × Int} (h : Wi (I ++ [z]) y) (hx : z.2 ≤ x.2) : Wi (I ++ [(z.1, x.2)]) y := by
  obtain ⟨u, hu, h1, h2⟩ := h
  rcases List.mem_append.mp hu with hu | hu
  · exact ⟨u, List.mem_append.mpr (.inl hu), h1, h2⟩
  · obtain rfl := List.mem_singleton.mp hu
    exact ⟨(u.1, x.2), by simp, h1, by show y.2 ≤ x.2; omega⟩
end DL
set_option linter.all false
set_option maxRecDepth 100000
set_option maxHeartbeats 1000000
namespace DL
open PySem PySem.Spec PyProof.Rows L2 DD
end DL
set_option linter.all false
set_option maxRecDepth 100000
set_option maxHeartbeats 1000000
namespace DL
open PySem PySem.Spec PyProof.Rows L2 DD
@[simp] theorem q_dIxO {C : Addr} {m : Nat} {T : En → SR} {A B : En → Res X} {ρ : En} : dIxO C m T A B ρ = ((A ρ).bind fun a ρ1 => (B ρ1).bind fun b ρ2 => match toVal ρ2 a.settle with
  | some (.ins C' ks es, ρ3) => match toVal ρ3 b.settle with
    | some (z, ρ4) => if C' = C then callV (fin (T (env0 m [.val (D.ins C' ks es), .val z]))) ρ4 else .stuck
    | none => .stuck
  | _ => .stuck) := rfl
end DL
set_option linter.all false
set_option maxRecDepth 100000
set_option maxHeartbeats 1000000
namespace DL
open PySem PySem.Spec PyProof.Rows L2 DD
end DL
set_option linter.all false
set_option maxRecDepth 100000
set_option maxHeartbeats 1000000
namespace DL
open PySem PySem.Spec PyProof.Rows L2 DD
end DL
set_option linter.all false
set_option maxRecDepth 100000
set_option maxHeartbeats 1000000
namespace DL
open PySem PySem.Spec PyProof.Rows L2 DD
def isI : D → Bool
  | .int _ => true
  | _ => false
def isB : D → Bool
  | .bl _ => true
  | _ => false
def isT : D → Bool
  | .tup _ => true
  | _ => false
def isS : D → Bool
  | .str _ => true
  | _ => false
def isL : D → Bool
  | .lst _ | .scr _ => true
  | _ => false
@[simp] theorem kx1 : kitB "NoneType" "int" = some false := by decide +kernel
@[simp] theorem kx2 : kitB "NoneType" "bool" = some false := by decide +kernel
@[simp] theorem kx3 : kitB "NoneType" "str" = some false := by decide +kernel
@[simp] theorem kx4 : kitB "NoneType" "tuple" = some false := by decide +kernel
@[simp] theorem kx5 : kitB "NoneType" "list" = some false := by decide +kernel
@[simp] theorem kx6 : kitB "bool" "int" = some true := by decide +kernel
@[simp] theorem kx7 : kitB "bool" "str" = some false := by decide +kernel
@[simp] theorem kx8 : kitB "bool" "tuple" = some false := by decide +kernel
@[simp] theorem kx9 : kitB "bool" "list" = some false := by decide +kernel
@[simp] theorem kx10 : kitB "int" "str" = some false := by decide +kernel
@[simp] theorem kx11 : kitB "int" "tuple" = some false := by decide +kernel
@[simp] theorem kx12 : kitB "int" "list" = some false := by decide +kernel
@[simp] theorem kx13 : kitB "str" "int" = some false := by decide +kernel
@[simp] theorem kx14 : kitB "str" "bool" = some false := by decide +kernel
@[simp] theorem kx15 : kitB "str" "str" = some true := by decide +kernel
@[simp] theorem kx16 : kitB "str" "tuple" = some false := by decide +kernel
@[simp] theorem kx17 : kitB "str" "list" = some false := by decide +kernel
@[simp] theorem kx18 : kitB "tuple" "int" = some false := by decide +kernel
@[simp] theorem kx19 : kitB "tuple" "bool" = some false := by decide +kernel
@[simp] theorem kx20 : kitB "tuple" "str" = some false := by decide +kernel
@[simp] theorem kx21 : kitB "list" "int" = some false := by decide +kernel
@[simp] theorem kx22 : kitB "list" "bool" = some false := by decide +kernel
@[simp] theorem kx23 : kitB "list" "str" = some false := by decide +kernel
@[simp] theorem ty_non : D.non.ty = .type "NoneType" := rfl
@[simp] theorem ty_bl {b : Bool} : (D.bl b).ty = .type "bool" := rfl
@[simp] theorem ty_int {b : Int} : (D.int b).ty = .type "int" := rfl
@[simp] theorem ty_str {b : Str} : (D.str b).ty = .type "str" := rfl
@[simp] theorem ty_tup {b : List D} : (D.tup b).ty = .type "tuple" := rfl
@[simp] theorem ty_lst {b : List D} : (D.lst b).ty = .type "list" := rfl
@[simp] theorem ty_ins {C : Addr} {ks : List Str} {b : List D} : (D.ins C ks b).ty = .ref C := rfl
@[simp] theorem tk_non {Cs : List Addr} : D.non.tyOk Cs = true := rfl
@[simp] theorem tk_bl {Cs : List Addr} {b : Bool} : (D.bl b).tyOk Cs = true := rfl
@[simp] theorem tk_int {Cs : List Addr} {b : Int} : (D.int b).tyOk Cs = true := rfl
@[simp] theorem tk_str {Cs : List Addr} {b : Str} : (D.str b).tyOk Cs = true := rfl
@[simp] theorem tk_tup {Cs : List Addr} {b : List D} : (D.tup b).tyOk Cs = true := rfl
@[simp] theorem tk_lst {Cs : List Addr} {b : List D} : (D.lst b).tyOk Cs = true := rfl
abbrev Okd (c : Cl) (d : D) : Prop := d.tyOk [c.Day, c.Rule, c.Frame] = true
/-- plain data of a depth -/
def Pv (n : Nat) (d : D) : Prop := ∃ p, d.py = some p ∧ p.canLay0 = true ∧ p.depth ≤ n
theorem Pv.mono {m n : Nat} {d : D} (h : Pv m d) (k : m ≤ n) : Pv n d := by
  obtain ⟨p, e, l, s⟩ := h
  exact ⟨p, e, l, by omega⟩
theorem Pv.ok {c : Cl} {n : Nat} {d : D} (h : Pv n d) : Okd c d := by
  obtain ⟨p, e, _⟩ := h
  cases d <;> first | rfl | cases e
theorem pv_all {n : Nat} : ∀ {ds : List D}, (∀ d ∈ ds, Pv n d) → ∃ ps, D.pyA ds = some ps ∧ PyData.canLayAll0 ps = true ∧ PyData.depthAll ps ≤ n ∧ ps.length = ds.length
  | [], _ => ⟨[], rfl, rfl, Nat.zero_le _, rfl⟩
  | d :: ds, h => by
    obtain ⟨p, e, l, s⟩ := h d (by simp)
    obtain ⟨ps, e2, l2, s2, z⟩ := pv_all (ds := ds) fun x hx => h x (by simp [hx])
    refine ⟨p :: ps, by simp only [D.pyA, e, e2], by simp only [PyData.canLayAll0, l, l2, Bool.and_self], ?_, by simp [z]⟩
    simp only [PyData.depthAll]
    omega
theorem Pv.tup {n : Nat} {ds : List D} (h : ∀ d ∈ ds, Pv n d) : Pv (n + 1) (.tup ds) := by
  obtain ⟨ps, e, l, s, _⟩ := pv_all h
  refine ⟨.tuple ps, by show (D.pyA ds).map PyData.tuple = _; rw [e]; rfl, by simpa [PyData.canLay0] using l, ?_⟩
  simp only [PyData.depth]
  omega
theorem Pv.lst {n : Nat} {ds : List D} (h : ∀ d ∈ ds, Pv n d) : Pv (n + 1) (.lst ds) := by
  obtain ⟨ps, e, l, s, _⟩ := pv_all h
  refine ⟨.list ps, by show (D.pyA ds).map PyData.list = _; rw [e]; rfl, by simpa [PyData.canLay0] using l, ?_⟩
  simp only [PyData.depth]
  omega
/-- an own thing or plain data -/
def Own (c : Cl) (d : D) : Prop := ∃ C ks ds, d = .ins C ks ds ∧ C ∈ [c.Day, c.Rule, c.Frame]
def El (c : Cl) (d : D) : Prop := Pv 40 d ∨ Own c d
theorem Own.ok {c : Cl} {d : D} (h : Own c d) : Okd c d := by
  obtain ⟨C, ks, ds, rfl, h⟩ := h
  simpa [Okd, D.tyOk] using h
theorem Own.no {c : Cl} {d : D} (h : Own c d) : isT d = false ∧ isL d = false ∧ isI d = false ∧ isB d = false ∧ isS d = false ∧ d ≠ .non ∧ d.py = none := by
  obtain ⟨C, ks, ds, rfl, h⟩ := h
  exact ⟨rfl, rfl, rfl, rfl, rfl, fun z => (nomatch z), rfl⟩
theorem El.ok {c : Cl} {d : D} (h : El c d) : Okd c d := by
  rcases h with h | h
  · exact h.ok
  · exact h.ok
theorem El.tup {c : Cl} {ds : List D} (h : El c (.tup ds)) : Pv 40 (.tup ds) := by
  rcases h with h | h
  · exact h
  · cases h.no.1
end DL
set_option linter.all false
set_option maxRecDepth 100000
set_option maxHeartbeats 1000000
namespace DL
open PySem PySem.Spec PyProof.Rows L2 DD
end DL
set_option linter.all false
set_option maxRecDepth 100000
set_option maxHeartbeats 1000000
namespace DL
open PySem PySem.Spec PyProof.Rows L2 DD
end DL
set_option linter.all false
set_option maxRecDepth 100000
set_option maxHeartbeats 1000000
namespace DL
open PySem PySem.Spec PyProof.Rows L2 DD
theorem lc_st {vs : List Nat} {U : Tg} {T : En → Res Bool} {A : En → Res X} : ∀ {ds : List D} (W : Nat → En → List D → Prop), (∀ i (hi : i < ds.length) ρ acc rest, W i ρ acc → ∃ ρ2 acc2, lcL vs U T A (ds[i] :: rest) ρ acc = lcL vs U T A rest ρ2 acc2 ∧ W (i + 1) ρ2 acc2) → ∀ {ρ : En} {acc : List D}, W 0 ρ acc → ∃ ρ' acc', lcL vs U T A ds ρ acc = .ok acc' ρ' ∧ W ds.length ρ' acc'
  | [], W, _, ρ, acc, h0 => ⟨ρ, acc, by simp [lcL], h0⟩
  | d :: ds, W, h, ρ, acc, h0 => by
    obtain ⟨ρ2, acc2, e, w⟩ := h 0 (by simp) ρ acc ds h0
    obtain ⟨ρ', acc', e2, w2⟩ := lc_st (ds := ds) (fun i => W (i + 1)) (fun i hi ρ acc rest hw => h (i + 1) (by simpa using hi) ρ acc rest hw) w
    refine ⟨ρ', acc', ?_, w2⟩
    rw [show (d :: ds)[0] = d from rfl] at e
    rw [e, e2]
end DL
set_option linter.all false
set_option maxRecDepth 100000
set_option maxHeartbeats 2000000
namespace DL
open PySem PySem.Spec PyProof.Rows L2 DD
def bd : Nat → Nat
  | 0 => 12
  | n + 1 => 3 * (bd n + 2) + 3
theorem bd_le (n : Nat) : bd n ≤ bd (n + 1) := by
  show bd n ≤ 3 * (bd n + 2) + 3
  omega
/-- data that can be told -/
def Ev (n : Nat) (d : D) : Prop := ∃ p, d.py = some p ∧ p.showable = true ∧ p.hasDict = false ∧ p.depth ≤ n ∧ p.shown.length ≤ bd n
theorem Ev.up {n : Nat} {d : D} : Ev n d → Ev (n + 1) d
  | ⟨p, e, h1, h2, h3, h4⟩ => ⟨p, e, h1, h2, by omega, by have := bd_le n; omega⟩
theorem Ev.up0 {d : D} (h : Ev 0 d) : ∀ n, Ev n d
  | 0 => h
  | n + 1 => (Ev.up0 h n).up
theorem ev_all {n : Nat} : ∀ {ds : List D}, (∀ d ∈ ds, Ev n d) → ∃ ps, D.pyA ds = some ps ∧ PyData.showableAll ps = true ∧ PyData.hasDictAll ps = false ∧ PyData.depthAll ps ≤ n ∧ piled (PyData.shownAll ps) ≤ ds.length * (bd n + 2)
  | [], _ => ⟨[], rfl, rfl, rfl, by simp [PyData.depthAll], by simp [PyData.shownAll, piled_nil]⟩
  | d :: ds, h => by
    obtain ⟨p, e, a1, a2, a3, a4⟩ := h d (List.mem_cons_self ..)
    obtain ⟨ps, e', b1, b2, b3, b4⟩ := ev_all (ds := ds) fun x hx => h x (List.mem_cons_of_mem _ hx)
    refine ⟨p :: ps, by simp only [D.pyA, e, e'], by simp [PyData.showableAll, a1, b1], by simp [PyData.hasDictAll, a2, b2], by simp [PyData.depthAll]; omega, ?_⟩
    show piled (p.shown :: PyData.shownAll ps) ≤ _
    rw [piled_cons, List.length_cons, Nat.succ_mul]
    omega
theorem list_text (ts : List Str) : (listText ts).length ≤ piled ts + 3 := by
  have h := listText_len_le ts
  have : piled ts = (ts.map (·.length)).sum + 2 * ts.length := by
    induction ts with
    | nil => rfl
    | cons t ts ih =>
      have ih' := ih (listText_len_le ts)
      rw [piled_cons, ih']
      simp
      omega
  omega
theorem Ev.tup {n : Nat} {ds : List D} (h : ∀ d ∈ ds, Ev n d) (l : ds.length ≤ 3) : Ev (n + 1) (.tup ds) := by
  obtain ⟨ps, e, b1, b2, b3, b4⟩ := ev_all h
  have z := fmt_text (PyData.shownAll ps)
  have m : ds.length * (bd n + 2) ≤ 3 * (bd n + 2) := Nat.mul_le_mul_right _ l
  refine ⟨.tuple ps, by simp only [D.py, e, Option.map_some], by simpa [PyData.showable] using b1, by simpa [PyData.hasDict] using b2, by simp [PyData.depth]; omega, ?_⟩
  show (tupleText (PyData.shownAll ps)).length ≤ 3 * (bd n + 2) + 3
  omega
theorem Ev.lst {n : Nat} {ds : List D} (h : ∀ d ∈ ds, Ev n d) (l : ds.length ≤ 3) : Ev (n + 1) (.lst ds) := by
  obtain ⟨ps, e, b1, b2, b3, b4⟩ := ev_all h
  have z := list_text (PyData.shownAll ps)
  have m : ds.length * (bd n + 2) ≤ 3 * (bd n + 2) := Nat.mul_le_mul_right _ l
  refine ⟨.list ps, by simp only [D.py, e, Option.map_some], by simpa [PyData.showable] using b1, by simpa [PyData.hasDict] using b2, by simp [PyData.depth]; omega, ?_⟩
  show (listText (PyData.shownAll ps)).length ≤ 3 * (bd n + 2) + 3
  omega
/-- .. is told seven times -/
theorem Ev.ok {n : Nat} {d : D} (h : Ev n d) (hn : n ≤ 6) : ∃ p, d.py = some p ∧ EOk p := by
  obtain ⟨p, e, h1, h2, h3, h4⟩ := h
  have hb : bd n ≤ 20000 := by
    have : ∀ n, n ≤ 6 → bd n ≤ 20000 := by decide
    exact this n hn
  have hz : sizeLine = 16777216 := sizeLine_eq
  refine ⟨p, e, h1, h2, by omega, ?_, ?_⟩
  · have z := list_text (PyData.shownAll (seven p))
    show (listText (PyData.shownAll (seven p))).length ≤ sizeLine
    have : PyData.shownAll (seven p) = seven p.shown := by simp [seven, PyData.shownAll]
    rw [this] at z ⊢
    simp only [seven, piled_cons, piled_nil] at z ⊢
    omega
  · have z := list_text (PyData.shownAll (seven (.list [p, .int 5])))
    have z2 := list_text (PyData.shownAll [p, .int 5])
    show (listText (PyData.shownAll (seven (.list [p, .int 5])))).length ≤ sizeLine
    have e1 : PyData.shownAll (seven (.list [p, .int 5])) = seven (listText (PyData.shownAll [p, .int 5])) := by simp [seven, PyData.shownAll, PyData.shown]
    have e2 : PyData.shownAll [p, .int 5] = [p.shown, (PyData.int 5).shown] := by simp [PyData.shownAll]
    have e3 : (PyData.int 5).shown.length ≤ 5 := by decide +kernel
    rw [e1] at z ⊢
    rw [e2] at z z2 ⊢
    simp only [seven, piled_cons, piled_nil] at z z2 ⊢
    omega
theorem leaf_ev {c : Cl} (b : Int × Int) : ∃ d b', GivesB 2 (D__law_leaf c) (box b) [] (.val d) (box b') ∧ Ev 0 d := by
  obtain ⟨d, b', g, hd⟩ := one_of_gives (c := c) b (ds := [.non, .bl true, .bl false, .int 0, .int 1, .int (-1), .int 2, .int 3, .str "", .str "busy", .str "private", .str "one", .str "2-5", .str "-", .str "12: -"]) (by simp) (by simp)
  obtain ⟨ρ', e1, e2⟩ := g.elim
  refine ⟨d, b', ?_, ?_⟩
  · simp at e1
    simp [GivesB, D__law_leaf, e1, e2]
  · simp at hd
    rcases hd with rfl | rfl | rfl | rfl | rfl | rfl | rfl | rfl | rfl | rfl | rfl | rfl | rfl | rfl | rfl <;> exact ⟨_, rfl, by decide +kernel, by decide +kernel, by simp [PyData.depth], by decide +kernel⟩
end DL
set_option linter.all false
set_option maxRecDepth 100000
set_option maxHeartbeats 2000000
namespace DL
open PySem PySem.Spec PyProof.Rows L2 DD
def XEv (n : Nat) (x : X) : Prop := ∃ d, (x = .val d ∨ ∃ ds, x = .new (.lst ds) ∧ d = .lst ds) ∧ Ev n d
theorem ev_lc {c : Cl} {rec : En → SR} {n : Nat} (ih : ∀ b, ∃ x b', GivesB 5 rec (box b) [.int n] x (box b') ∧ XEv (n + 1) x) {k : Nat} (hk : k ≤ 3) {b : Int × Int} {v2 : D} : ∃ (b' : Int × Int) (acc : List D), lcL [4] (uName 4) tdYes (dLend 2 5 rec 0 (aCons (dBin opSub (dVar 1) (dC (.int 1))) aNil)) ((List.range k).map fun i => D.int (0 + (i : Nat))) [.bor (box b), .val (.int (n + 1 : Nat)), .val v2, .none, .none] [] = .ok acc [.bor (box b'), .val (.int (n + 1 : Nat)), .val v2, .none, .none] ∧ acc.length ≤ 3 ∧ ∀ d ∈ acc, Ev (n + 1) d := by
  obtain ⟨ρ', acc, e, b', rfl, hl, hp⟩ := lc_st (vs := [4]) (U := uName 4) (T := tdYes) (A := dLend 2 5 rec 0 (aCons (dBin opSub (dVar 1) (dC (.int 1))) aNil)) (ds := (List.range k).map fun i => D.int (0 + (i : Nat))) (fun i ρ acc => ∃ b' : Int × Int, ρ = [.bor (box b'), .val (.int (n + 1 : Nat)), .val v2, .none, .none] ∧ acc.length = i ∧ ∀ d ∈ acc, Ev (n + 1) d) (fun i hi ρ acc rest hw => by
    obtain ⟨b, rfl, hl, hp⟩ := hw
    obtain ⟨x, b', g, d, hx, pd⟩ := ih b
    obtain ⟨ρ', e1, e2⟩ := g.elim
    have ha : acc.length < 16777216 := by simp at hi; omega
    refine ⟨[.bor (box b'), .val (.int (n + 1 : Nat)), .val v2, .none, .none], acc ++ [d], ?_, b', rfl, by simp [hl], ?_⟩
    · simp at e1
      rcases hx with rfl | ⟨ds, rfl, rfl⟩
      · simp [lcL, e1, e2, ha]
      · simp [lcL, e1, e2, ha]
    · intro z hz
      simp at hz
      rcases hz with hz | rfl
      · exact hp z hz
      · exact pd) (ρ := [.bor (box b), .val (.int (n + 1 : Nat)), .val v2, .none, .none]) (acc := []) ⟨b, rfl, rfl, by simp⟩
  simp at hl
  exact ⟨b', acc, e, by omega, hp⟩
theorem ev_gives {c : Cl} : ∀ (n f : Nat), n < 30 → ∀ b : Int × Int, ∃ x b', GivesB 5 (D__law_any_n c (n + f + 1)) (box b) [.int n] x (box b') ∧ XEv (n + 1) x
  | 0, f, _, b => by
    obtain ⟨d, b', g, pd⟩ := leaf_ev (c := c) b
    obtain ⟨ρ', e1, e2⟩ := g.elim
    refine ⟨.val d, b', ?_, d, .inl rfl, pd.up0 _⟩
    simp at e1
    simp [GivesB, D__law_any_n, D__law_any_r, e1, e2]
  | n + 1, f, hn, b => by
    have ih := ev_gives (c := c) n f (by omega)
    obtain ⟨form, b1, g1, hf0, hf6⟩ := choose_gives (c := c) b (m := 6) (by omega) (by omega)
    obtain ⟨_, p1, q1⟩ := g1.elim
    have h1 : (0 : Int) < (n : Int) + 1 := by omega
    have he : n + 1 + f + 1 = (n + f + 1) + 1 := by omega
    rw [he]
    by_cases hf : 1 < form
    · obtain ⟨d, b', g, pd⟩ := leaf_ev (c := c) b1
      obtain ⟨ρ', e1, e2⟩ := g.elim
      refine ⟨.val d, b', ?_, d, .inl rfl, pd.up0 _⟩
      simp at e1 p1
      rw [D__law_any_n]
      simp [GivesB, D__law_any_r, e1, e2, p1, q1, hf, h1]
    · obtain ⟨k, b2, g2, hk0, hk4⟩ := choose_gives (c := c) b1 (m := 4) (by omega) (by omega)
      obtain ⟨_, p2, q2⟩ := g2.elim
      obtain ⟨b', acc, e, hl, hp⟩ := ev_lc (c := c) ih (k := k.toNat) (by omega) (b := b2) (v2 := .int form)
      have k1 : -4611686018427387904 ≤ k := by omega
      have k2 : k < 4611686018427387904 := by omega
      have hz : acc.length < 16777216 := by omega
      simp at p1 p2 e
      by_cases h0 : form = 0
      · subst h0
        refine ⟨.val (.tup acc), b', ?_, .tup acc, .inl rfl, Ev.tup hp hl⟩
        rw [D__law_any_n]
        simp [GivesB, D__law_any_r, p1, q1, h1, p2, q2, lcAll, e, k1, k2]
      · refine ⟨.new (.lst acc), b', ?_, .lst acc, .inr ⟨acc, rfl, rfl⟩, Ev.lst hp hl⟩
        rw [D__law_any_n]
        simp [GivesB, D__law_any_r, p1, q1, h1, p2, q2, lcAll, e, k1, k2, hf, h0]
theorem ev5 {c : Cl} (b : Int × Int) : ∃ x b', GivesB 5 (D__law_any c) (box b) [.int 5] x (box b') ∧ XEv 6 x := ev_gives (c := c) 5 3 (by omega) b
theorem sErr_ok {ρ ρ' : En} {d : D} (fz : frzE [4] ρ = ρ') (h4 : ρ'[4]? = some (.val d)) (ok : ∃ p, d.py = some p ∧ EOk p) (hn : ∀ i, I510 i → ρ'[i]? = some .none) (hl : 12 ≤ ρ'.length) : sErr ρ = .nx ρ' := by
  subst fz
  unfold sErr
  rw [h4]
  exact if_pos ⟨ok, hn, hl⟩
theorem b1_v {c : Cl} {b : Int × Int} {v0 v1 v3 s4 : Slot} (f4 : s4.free = true) : ∃ (b' : Int × Int) (d : D), D_law_b1 c [v0, v1, .own (box b), v3, s4, .none, .none, .none, .none, .none, .none, .none] = .nx [v0, v1, .own (box b'), v3, .val d, .none, .none, .none, .none, .none, .none, .none] := by
  obtain ⟨x, b', g, d, hx, ev⟩ := ev5 (c := c) b
  obtain ⟨_, p, q⟩ := g.elim
  have ok := ev.ok (by omega)
  refine ⟨b', d, ?_⟩
  have se : ∀ s : Slot, (s = .val d ∨ ∃ ds, s = .own (.lst ds) ∧ d = .lst ds) → sErr [v0, v1, .own (box b'), v3, s, .none, .none, .none, .none, .none, .none, .none] = .nx [v0, v1, .own (box b'), v3, .val d, .none, .none, .none, .none, .none, .none, .none] := fun s hs => by
    have fz : frzE [4] [v0, v1, .own (box b'), v3, s, .none, .none, .none, .none, .none, .none, .none] = [v0, v1, .own (box b'), v3, .val d, .none, .none, .none, .none, .none, .none, .none] := by
      rcases hs with rfl | ⟨ds, rfl, rfl⟩ <;> rfl
    refine sErr_ok fz rfl ok (fun i hi => ?_) (by simp)
    obtain ⟨h5, h10⟩ := hi
    match i, h5, h10 with
    | 5, _, _ => rfl
    | 6, _, _ => rfl
    | 7, _, _ => rfl
    | 8, _, _ => rfl
    | 9, _, _ => rfl
    | 10, _, _ => rfl
  simp at p
  rcases hx with rfl | ⟨ds, rfl, rfl⟩
  · have e := se (.val d) (.inl rfl)
    simp [D_law_b1, f4, p, q, e]
  · have e := se (.own (.lst ds)) (.inr ⟨ds, rfl, rfl⟩)
    simp [D_law_b1, f4, p, q, e]
theorem b2_v {c : Cl} {ns : List Int} {k : Nat} {s2 s3 s4 : Slot} (f2 : s2.free = true) (f3 : s3.free = true) (f4 : s4.free = true) : ∃ (t2 t3 t4 : Slot), D_law_b2 c [.val (.scr (ns.map D.int)), .val (.int k), s2, s3, s4, .none, .none, .none, .none, .none, .none, .none] = .nx [.val (.scr (ns.map D.int)), .val (.int k), t2, t3, t4, .none, .none, .none, .none, .none, .none, .none] ∧ t2.free = true ∧ t3.free = true ∧ t4.free = true := by
  obtain ⟨b, g⟩ := seed_gives (c := c) ns k
  obtain ⟨_, p1⟩ := g.elim
  obtain ⟨ρ2, e2, b2, t3, t4, rfl, h3, h4⟩ := forR_inv (U := uName 3) (B := D_law_b1 c) (n := 6) (fun i ρ => ∃ (b : Int × Int) (s3 s4 : Slot), ρ = [.val (.scr (ns.map D.int)), .val (.int k), .own (box b), s3, s4, .none, .none, .none, .none, .none, .none, .none] ∧ s3.free = true ∧ s4.free = true) (fun i hi ρ hw => by
    obtain ⟨b, s3, s4, rfl, f3, f4⟩ := hw
    obtain ⟨b', d, e⟩ := b1_v (c := c) (b := b) (v0 := .val (.scr (ns.map D.int))) (v1 := .val (.int k)) (v3 := .val (.int i)) f4
    exact ⟨_, .inl (by simp [f3, e] <;> rfl), b', .val (.int i), .val d, rfl, rfl, rfl⟩) (ρ := [.val (.scr (ns.map D.int)), .val (.int k), .own (box b), s3, s4, .none, .none, .none, .none, .none, .none, .none]) ⟨b, _, _, rfl, f3, f4⟩
  refine ⟨.own (box b2), t3, t4, ?_, rfl, h3, h4⟩
  simp at p1
  simp [D_law_b2, f2, p1, e2]
theorem loop_v {c : Cl} {ns : List Int} {N : Nat} : ∃ ρ, forL (uName 1) (D_law_b2 c) ((List.range N).map fun i => D.int (i : Nat)) [.val (.scr (ns.map D.int)), .none, .none, .none, .none, .none, .none, .none, .none, .none, .none, .none] = .nx ρ := by
  obtain ⟨ρ', e, _⟩ := forR_inv (U := uName 1) (B := D_law_b2 c) (n := N) (fun i ρ => ∃ s1 s2 s3 s4 : Slot, ρ = [.val (.scr (ns.map D.int)), s1, s2, s3, s4, .none, .none, .none, .none, .none, .none, .none] ∧ s1.free = true ∧ s2.free = true ∧ s3.free = true ∧ s4.free = true) (fun i hi ρ hw => by
    obtain ⟨s1, s2, s3, s4, rfl, f1, f2, f3, f4⟩ := hw
    obtain ⟨t2, t3, t4, e, g2, g3, g4⟩ := b2_v (c := c) (ns := ns) (k := i) f2 f3 f4
    exact ⟨_, .inl (by simp [f1, e] <;> rfl), .val (.int i), t2, t3, t4, rfl, rfl, g2, g3, g4⟩) (ρ := [.val (.scr (ns.map D.int)), .none, .none, .none, .none, .none, .none, .none, .none, .none, .none, .none]) ⟨_, _, _, _, rfl, rfl, rfl, rfl, rfl⟩
  exact ⟨ρ', e⟩
theorem rng1_is {A : En → Res X} {ρ ρ1 : En} {x : Int} (h : A ρ = .ok (.val (.int x)) ρ1) (h0 : 0 ≤ x) (h1 : x ≤ 1000) : dRng1 A ρ = .ok ((List.range x.toNat).map fun i => D.int (i : Nat)) ρ1 := by
  have r1 : -4611686018427387904 ≤ x := by omega
  have r2 : x < 4611686018427387904 := by omega
  simp [h, r1, r2]
theorem for_then {S : En → Res (List D)} {U : Tg} {B K : En → SR} {ds : List D} {ρ ρ1 ρ2 : En} (h1 : S ρ = .ok ds ρ1) (h2 : forL U B ds ρ1 = .nx ρ2) : sSeq (sFor S U B) K ρ = K ρ2 := by
  show (match (S ρ).sb fun ds ρ1 => forL U B ds ρ1 with
    | .nx ρ1 => K ρ1
    | r => r) = _
  rw [h1]
  show (match forL U B ds ρ1 with
    | .nx ρ1 => K ρ1
    | r => r) = _
  rw [h2]
def lawN : En → Res (List D) := (dRng1 (dCB fMax (aCons (dC (.int 2)) (aCons (dCB fMin (aCons (dC (.int 5)) (aCons (dCB fLen (aCons (dVar 0) aNil)) aNil))) aNil))))
theorem lawN_v {ns : List Int} : ∃ N : Nat, lawN [.val (.scr (ns.map D.int)), .none, .none, .none, .none, .none, .none, .none, .none, .none, .none, .none] = .ok ((List.range N).map fun i => D.int (i : Nat)) [.val (.scr (ns.map D.int)), .none, .none, .none, .none, .none, .none, .none, .none, .none, .none, .none] := by
  obtain ⟨x, hx, h0, h1⟩ : ∃ x : Int, (if (if (ns.length : Int) < 5 then (ns.length : Int) else 5) > 2 then (if (ns.length : Int) < 5 then (ns.length : Int) else 5) else 2) = x ∧ 0 ≤ x ∧ x ≤ 5 := by
    refine ⟨_, rfl, ?_, ?_⟩ <;> (repeat' split) <;> omega
  refine ⟨x.toNat, rng1_is ?_ h0 (by omega)⟩
  simp at hx
  simp [hx]
theorem law_eq3 {c : Cl} : D_law c = (sSeq (sFor lawN (uName 1) (D_law_b2 c)) (sRet (dC (.bl true)))) := rfl
theorem law_ok (c : Cl) : LawOk 12 (D_law c) := by
  intro ns hn
  obtain ⟨N, hN⟩ := lawN_v (ns := ns)
  obtain ⟨ρ, e⟩ := loop_v (c := c) (ns := ns) (N := N)
  have h : D_law c [.val (.scr (ns.map D.int)), .none, .none, .none, .none, .none, .none, .none, .none, .none, .none, .none] = .rt (.val (.bl true)) ρ := by
    rw [law_eq3]
    exact (for_then hN e).trans rfl
  have g : Gives 12 (D_law c) [.scr (ns.map D.int)] (.val (.bl true)) := by
    show resV (fin (D_law c [.val (.scr (ns.map D.int)), .none, .none, .none, .none, .none, .none, .none, .none, .none, .none, .none])) = _
    rw [h]
    rfl
  exact g.elim
end DL
set_option Elab.async false
set_option linter.all false
set_option maxRecDepth 100000
set_option maxHeartbeats 4000000
namespace DD
open PySem PySem.Spec PyProof.Rows L2 StX ClX DL
section
variable {P : Program} {w : World} {K : PySem.W.Frag} {mg : Str → Option Value} {base : Heap} {d : Ad}
theorem ok_law {f : Addr} {fd : FuncData} (T : Txt K mg d) (F : Fun K "law" "law" s_law f fd) : FnG P w K mg base 14 f fd ["_law_script"] (spLaw K) := by
  refine fun_okG F sc_law (fun vs H Q E h => ?_) (fun cdv A outer s H vs Q E hr hg h => ?_)
  · obtain ⟨_, _, rfl, _⟩ := h
    rfl
  · have hu := hr.units
    have hu5 := room5 hr
    exact ⟨_, (pss_cons (ps_for PassesOwn.never rfl (pi_range1 rfl T.b_range (pa_cons (pe_callB (call_max2 rfl) (by rfl) T.b_max (by decide +kernel) (pa_cons pe_int (pa_cons (pe_callB (call_min2 rfl) (by rfl) T.b_min (by decide +kernel) (pa_cons pe_int (pa_cons (pe_callB (call_len2 (K := K)) (by rfl) T.b_len PySem.boot_len (pa_cons (pv 0) pa_nil)) pa_nil))) pa_nil))) pa_nil)) (pg_name (i := 1) sc_law.nd rfl (by first | exact Or.inl rfl | exact Or.inr rfl)) (pss_cons (ps_set (i := 2) sc_law.nd rfl (by first | exact Or.inl rfl | exact Or.inr rfl) (pe_callR (sp := spD0 K 2 3 (D__law_seed (cl d))) (ok__law_seed T) (hr.mono (by decide)) rfl T.m__law_seed T.k__law_seed pass0 (pa_cons (pv 0) (pa_cons (pv 1) pa_nil)))) (pss_one (ps_for PassesOwn.never rfl (pi_range1 rfl T.b_range (pa_cons pe_int pa_nil)) (pg_name (i := 3) sc_law.nd rfl (by first | exact Or.inl rfl | exact Or.inr rfl)) (pss_cons (ps_set (i := 4) sc_law.nd rfl (by first | exact Or.inl rfl | exact Or.inr rfl) (pe_callR (sp := spD0 K 2 5 (D__law_any (cl d))) (ok__law_any T) (hr.mono (by decide)) rfl T.m__law_any T.k__law_any pass0 (pa_cons (pv 2) (pa_cons pe_int pa_nil)))) (pss_cons (ps_set (i := 5) sc_law.nd rfl (by first | exact Or.inl rfl | exact Or.inr rfl) (pe_callR (sp := spMade (CS d)) (ok__law_made T) (hr.mono (by decide)) rfl T.m__law_made T.k__law_made pass0 (pa_cons (pv 4) pa_nil))) (pss_cons (ps_if (pt_cmpR (op_ne2 (K := K) hu) (pe_callB (call_reprD hg hu) (by rfl) T.b_repr (by decide +kernel) (pa_cons (pe_callR (sp := spKept K (CS d)) (ok__law_kept T) (hr.mono (by decide)) rfl T.m__law_kept T.k__law_kept pass0 (pa_cons (pv 5) pa_nil)) pa_nil)) (pe_callB (call_reprD hg hu) (by rfl) T.b_repr (by decide +kernel) (pa_cons (pe_op (op_rep (K := K)) (pe_lst (pa_cons (pv 4) pa_nil)) pe_int) pa_nil)) (nomark _)) (pss_one (ps_ret pe_bl)) pss_nil) (pss_cons (ps_set (i := 6) sc_law.nd rfl (by first | exact Or.inl rfl | exact Or.inr rfl) (pe_lst (pa_cons (pv 4) pa_nil))) (pss_cons (ps_set (i := 7) sc_law.nd rfl (by first | exact Or.inl rfl | exact Or.inr rfl) (pe_callR (sp := spMade (CS d)) (ok__law_made T) (hr.mono (by decide)) rfl T.m__law_made T.k__law_made pass0 (pa_cons (pv 6) pa_nil))) (pss_cons (ps_expr (pe_bm PySem.F.plainAttrs_list PySem.F.slot_list_append PySem.F.type_list_append mt_append (pv 6) (pa_cons pe_int pa_nil))) (pss_cons (ps_if (pt_cmpR (op_ne2 (K := K) hu) (pe_callB (call_reprD hg hu) (by rfl) T.b_repr (by decide +kernel) (pa_cons (pe_callR (sp := spKept K (CS d)) (ok__law_kept T) (hr.mono (by decide)) rfl T.m__law_kept T.k__law_kept pass0 (pa_cons (pv 7) pa_nil)) pa_nil)) (pe_callB (call_reprD hg hu) (by rfl) T.b_repr (by decide +kernel) (pa_cons (pe_op (op_rep (K := K)) (pe_lst (pa_cons (pe_lst (pa_cons (pv 4) (pa_cons pe_int pa_nil))) pa_nil)) pe_int) pa_nil)) (nomark _)) (pss_one (ps_ret pe_bl)) pss_nil) (pss_one (ps_for PassesOwn.never rfl (pi_enumK (K := K) rfl T.b_enumerate (pa_cons (pe_op (op_add4 (K := K)) (pv 5) (pe_lst (pa_cons (pe_exc0 PySem.F.excBase_ValueError T.ei_InvalidSlot T.m_InvalidSlot T.kp_InvalidSlot rfl) (pa_cons (pe_exc0 PySem.F.excBase_ValueError T.ei_InvalidCommand T.m_InvalidCommand T.kp_InvalidCommand rfl) pa_nil)))) pa_nil)) (pg_tupK (K := K) (n := 2) rfl (pgs_cons (pg_name (i := 8) sc_law.nd rfl (by first | exact Or.inl rfl | exact Or.inr rfl)) (pgs_cons (pg_name (i := 9) sc_law.nd rfl (by first | exact Or.inl rfl | exact Or.inr rfl)) pgs_nil))) (pss_cons (ps_if (pt_cmpR (op_ne2 (K := K) hu) (pe_callR (sp := spSorts K (CA d)) (ok__law_sorts T) (hr.mono (by decide)) rfl T.m__law_sorts T.k__law_sorts pass0 (pa_cons (pv 9) pa_nil)) (pe_lc (own := [("_law_other", 11)]) rfl sc_law.nd (pi_range1 rfl T.b_range (pa_cons pe_int pa_nil)) (blkOk_by (N := ["_law_script", "_law_k", "_law_box", "_law_turn", "_law_value", "_law_errors", "_law_held", "_law_made_here", "_law_spot", "_law_error", "_law_is_plain", "_law_other"]) (sc := defScope s_law) (by decide +kernel)) (fun _ _ _ _ _ => (pg_name (i := 11) sc_law.nd rfl (by first | exact Or.inl rfl | exact Or.inr rfl))) (fun _ _ _ _ _ => pts_nil) (fun _ _ _ _ _ => (pe_cmpR (op_eq2 (K := K) hu) (pv 11) (pv 8) (nomark _)))) (nomark _)) (pss_one (ps_ret pe_bl)) pss_nil) (pss_cons (ps_set (i := 10) sc_law.nd rfl (by first | exact Or.inl rfl | exact Or.inr rfl) (pe_and (pe_callB call_isXv (by rfl) T.b_isinstance (by decide +kernel) (pa_cons (pv 9) (pa_cons (pe_glob (v := .ref d.C_DimError) rfl T.m_DimError rfl) pa_nil))) (pe_one (pe_callB call_isXv (by rfl) T.b_isinstance (by decide +kernel) (pa_cons (pv 9) (pa_cons (pe_bltn (v := .ty "ValueError") rfl T.b_ValueError (by decide +kernel) rfl) pa_nil)))))) (pss_one (ps_if (PW.pt (pw_or (pt_cmpR (op_ne2 (K := K) hu) (pv 10) (pe_cmpR (op_ne2 (K := K) hu) (pv 8) pe_int (nomark _)) (nomark _)) (pw_or1 (pt_cmpR (op_ne2 (K := K) hu) (pe_callB call_isXv (by rfl) T.b_isinstance (by decide +kernel) (pa_cons (pv 9) (pa_cons (pe_bltn (v := .ty "IndexError") rfl T.b_IndexError (by decide +kernel) rfl) pa_nil))) (pe_cmpR (op_eq2 (K := K) hu) (pv 8) pe_int (nomark _)) (nomark _))))) (pss_one (ps_ret pe_bl)) pss_nil))))))))))))))))) (pss_one (ps_ret pe_bl))), law_run (T := D_law (cl d)) (by decide) (L_seq (L_for (vs := [1]) (I_rng1 (L_cb C_max (A_cons L_int (A_cons (L_cb C_min (A_cons L_int (A_cons (L_cb C_len (A_cons (L_var (i := 0)) A_nil)) A_nil))) A_nil)))) (U_name (by decide)) (L_seq (L_set (Lz_call (A_cons (L_var (i := 0)) (A_cons (L_var (i := 1)) A_nil)))) (L_for (vs := [3]) (I_rng1 L_int) (U_name (by decide)) (L_seq (L_set (Lz_lend (i := 2) (A_cons L_int A_nil))) (LS_err rfl (csx T) (efo T)))))) (L_ret L_bl)) (law_ok (cl d)) h⟩
end
theorem all_mk {l : PySem.W.OpenLaw} {w : World} {K : PySem.W.Frag} {h : Heap} {mg : Str → Option Value} {fa : Addr} (X : K.In h) (G : h.Ns mainGlobals mg) (hfa : mg "law" = some (.ref fa))
    {f__law_choose f__law_one_of f__law_leaf f__law_any f__law_kept f__law_made f__law_seed f__law_sorts f_law C_DimError C_InvalidCommand C_InvalidDay C_InvalidFrame C_InvalidLooks C_InvalidRule C_InvalidSlot C_InvalidText C_NoMeeting C_Refused f_InvalidDay___init__ f_InvalidFrame___init__ f_InvalidLooks___init__ f_InvalidRule___init__ f_InvalidText___init__ f_NoMeeting___init__ f_Refused___init__ : Addr}
    {oc__law_choose kV__law_choose do__law_choose pm__law_choose cd__law_choose ct__law_choose : Value} {od__law_choose an__law_choose : Option Addr} {sl__law_choose : Array (Option Value)} (a__law_choose : PySem.W.nsIn K mainGlobals "_law_choose" = some (some (.ref f__law_choose)))
     (l__law_choose : K.lookup f__law_choose = some ⟨oc__law_choose, od__law_choose, .func (PySem.W.fnOf "_law_choose" "_law_choose" (defArgs s__law_choose) (defBody s__law_choose) (defScope s__law_choose) .none kV__law_choose do__law_choose pm__law_choose an__law_choose cd__law_choose ct__law_choose), sl__law_choose⟩)
     (c__law_choose : PySem.W.codeIn K cd__law_choose "_law_choose" = true)
     (k__law_choose : PySem.W.keepIn K (.ref f__law_choose) = true)
    {oc__law_one_of kV__law_one_of do__law_one_of pm__law_one_of cd__law_one_of ct__law_one_of : Value} {od__law_one_of an__law_one_of : Option Addr} {sl__law_one_of : Array (Option Value)} (a__law_one_of : PySem.W.nsIn K mainGlobals "_law_one_of" = some (some (.ref f__law_one_of)))
     (l__law_one_of : K.lookup f__law_one_of = some ⟨oc__law_one_of, od__law_one_of, .func (PySem.W.fnOf "_law_one_of" "_law_one_of" (defArgs s__law_one_of) (defBody s__law_one_of) (defScope s__law_one_of) .none kV__law_one_of do__law_one_of pm__law_one_of an__law_one_of cd__law_one_of ct__law_one_of), sl__law_one_of⟩)
     (c__law_one_of : PySem.W.codeIn K cd__law_one_of "_law_one_of" = true)
     (k__law_one_of : PySem.W.keepIn K (.ref f__law_one_of) = true)
    {oc__law_leaf kV__law_leaf do__law_leaf pm__law_leaf cd__law_leaf ct__law_leaf : Value} {od__law_leaf an__law_leaf : Option Addr} {sl__law_leaf : Array (Option Value)} (a__law_leaf : PySem.W.nsIn K mainGlobals "_law_leaf" = some (some (.ref f__law_leaf)))
     (l__law_leaf : K.lookup f__law_leaf = some ⟨oc__law_leaf, od__law_leaf, .func (PySem.W.fnOf "_law_leaf" "_law_leaf" (defArgs s__law_leaf) (defBody s__law_leaf) (defScope s__law_leaf) .none kV__law_leaf do__law_leaf pm__law_leaf an__law_leaf cd__law_leaf ct__law_leaf), sl__law_leaf⟩)
     (c__law_leaf : PySem.W.codeIn K cd__law_leaf "_law_leaf" = true)
     (k__law_leaf : PySem.W.keepIn K (.ref f__law_leaf) = true)
    {oc__law_any kV__law_any do__law_any pm__law_any cd__law_any ct__law_any : Value} {od__law_any an__law_any : Option Addr} {sl__law_any : Array (Option Value)} (a__law_any : PySem.W.nsIn K mainGlobals "_law_any" = some (some (.ref f__law_any)))
     (l__law_any : K.lookup f__law_any = some ⟨oc__law_any, od__law_any, .func (PySem.W.fnOf "_law_any" "_law_any" (defArgs s__law_any) (defBody s__law_any) (defScope s__law_any) .none kV__law_any do__law_any pm__law_any an__law_any cd__law_any ct__law_any), sl__law_any⟩)
     (c__law_any : PySem.W.codeIn K cd__law_any "_law_any" = true)
     (k__law_any : PySem.W.keepIn K (.ref f__law_any) = true)
    {oc__law_kept kV__law_kept do__law_kept pm__law_kept cd__law_kept ct__law_kept : Value} {od__law_kept an__law_kept : Option Addr} {sl__law_kept : Array (Option Value)} (a__law_kept : PySem.W.nsIn K mainGlobals "_law_kept" = some (some (.ref f__law_kept)))
     (l__law_kept : K.lookup f__law_kept = some ⟨oc__law_kept, od__law_kept, .func (PySem.W.fnOf "_law_kept" "_law_kept" (defArgs s__law_kept) (defBody s__law_kept) (defScope s__law_kept) .none kV__law_kept do__law_kept pm__law_kept an__law_kept cd__law_kept ct__law_kept), sl__law_kept⟩)
     (c__law_kept : PySem.W.codeIn K cd__law_kept "_law_kept" = true)
     (k__law_kept : PySem.W.keepIn K (.ref f__law_kept) = true)
    {oc__law_made kV__law_made do__law_made pm__law_made cd__law_made ct__law_made : Value} {od__law_made an__law_made : Option Addr} {sl__law_made : Array (Option Value)} (a__law_made : PySem.W.nsIn K mainGlobals "_law_made" = some (some (.ref f__law_made)))
     (l__law_made : K.lookup f__law_made = some ⟨oc__law_made, od__law_made, .func (PySem.W.fnOf "_law_made" "_law_made" (defArgs s__law_made) (defBody s__law_made) (defScope s__law_made) .none kV__law_made do__law_made pm__law_made an__law_made cd__law_made ct__law_made), sl__law_made⟩)
     (c__law_made : PySem.W.codeIn K cd__law_made "_law_made" = true)
     (k__law_made : PySem.W.keepIn K (.ref f__law_made) = true)
    {oc__law_seed kV__law_seed do__law_seed pm__law_seed cd__law_seed ct__law_seed : Value} {od__law_seed an__law_seed : Option Addr} {sl__law_seed : Array (Option Value)} (a__law_seed : PySem.W.nsIn K mainGlobals "_law_seed" = some (some (.ref f__law_seed)))
     (l__law_seed : K.lookup f__law_seed = some ⟨oc__law_seed, od__law_seed, .func (PySem.W.fnOf "_law_seed" "_law_seed" (defArgs s__law_seed) (defBody s__law_seed) (defScope s__law_seed) .none kV__law_seed do__law_seed pm__law_seed an__law_seed cd__law_seed ct__law_seed), sl__law_seed⟩)
     (c__law_seed : PySem.W.codeIn K cd__law_seed "_law_seed" = true)
     (k__law_seed : PySem.W.keepIn K (.ref f__law_seed) = true)
    {oc__law_sorts kV__law_sorts do__law_sorts pm__law_sorts cd__law_sorts ct__law_sorts : Value} {od__law_sorts an__law_sorts : Option Addr} {sl__law_sorts : Array (Option Value)} (a__law_sorts : PySem.W.nsIn K mainGlobals "_law_sorts" = some (some (.ref f__law_sorts)))
     (l__law_sorts : K.lookup f__law_sorts = some ⟨oc__law_sorts, od__law_sorts, .func (PySem.W.fnOf "_law_sorts" "_law_sorts" (defArgs s__law_sorts) (defBody s__law_sorts) (defScope s__law_sorts) .none kV__law_sorts do__law_sorts pm__law_sorts an__law_sorts cd__law_sorts ct__law_sorts), sl__law_sorts⟩)
     (c__law_sorts : PySem.W.codeIn K cd__law_sorts "_law_sorts" = true)
     (k__law_sorts : PySem.W.keepIn K (.ref f__law_sorts) = true)
    {oc_law kV_law do_law pm_law cd_law ct_law : Value} {od_law an_law : Option Addr} {sl_law : Array (Option Value)} (a_law : PySem.W.nsIn K mainGlobals "law" = some (some (.ref f_law)))
     (l_law : K.lookup f_law = some ⟨oc_law, od_law, .func (PySem.W.fnOf "law" "law" (defArgs s_law) (defBody s_law) (defScope s_law) .none kV_law do_law pm_law an_law cd_law ct_law), sl_law⟩)
     (c_law : PySem.W.codeIn K cd_law "law" = true)
     (k_law : PySem.W.keepIn K (.ref f_law) = true)
     (oc1 : PySem.W.specialIn K (.builtin "object.__class__") "__get__" = some (some (.builtin "getset_descriptor.__get__")))
     (oc2 : PySem.W.takesIn K (.builtin "object.__class__") = some true)
     (a_DimError : PySem.W.nsIn K mainGlobals "DimError" = some (some (.ref C_DimError)))
     (isc_DimError : PySem.W.isClsIn K C_DimError = true)
     (tyc_DimError : PySem.W.typeIn K (.ref C_DimError) = some (.type "type"))
     (a_InvalidCommand : PySem.W.nsIn K mainGlobals "InvalidCommand" = some (some (.ref C_InvalidCommand)))
     (isc_InvalidCommand : PySem.W.isClsIn K C_InvalidCommand = true)
     (tyc_InvalidCommand : PySem.W.typeIn K (.ref C_InvalidCommand) = some (.type "type"))
     (a_InvalidDay : PySem.W.nsIn K mainGlobals "InvalidDay" = some (some (.ref C_InvalidDay)))
     (isc_InvalidDay : PySem.W.isClsIn K C_InvalidDay = true)
     (tyc_InvalidDay : PySem.W.typeIn K (.ref C_InvalidDay) = some (.type "type"))
     (a_InvalidFrame : PySem.W.nsIn K mainGlobals "InvalidFrame" = some (some (.ref C_InvalidFrame)))
     (isc_InvalidFrame : PySem.W.isClsIn K C_InvalidFrame = true)
     (tyc_InvalidFrame : PySem.W.typeIn K (.ref C_InvalidFrame) = some (.type "type"))
     (a_InvalidLooks : PySem.W.nsIn K mainGlobals "InvalidLooks" = some (some (.ref C_InvalidLooks)))
     (isc_InvalidLooks : PySem.W.isClsIn K C_InvalidLooks = true)
     (tyc_InvalidLooks : PySem.W.typeIn K (.ref C_InvalidLooks) = some (.type "type"))
     (a_InvalidRule : PySem.W.nsIn K mainGlobals "InvalidRule" = some (some (.ref C_InvalidRule)))
     (isc_InvalidRule : PySem.W.isClsIn K C_InvalidRule = true)
     (tyc_InvalidRule : PySem.W.typeIn K (.ref C_InvalidRule) = some (.type "type"))
     (a_InvalidSlot : PySem.W.nsIn K mainGlobals "InvalidSlot" = some (some (.ref C_InvalidSlot)))
     (isc_InvalidSlot : PySem.W.isClsIn K C_InvalidSlot = true)
     (tyc_InvalidSlot : PySem.W.typeIn K (.ref C_InvalidSlot) = some (.type "type"))
     (a_InvalidText : PySem.W.nsIn K mainGlobals "InvalidText" = some (some (.ref C_InvalidText)))
     (isc_InvalidText : PySem.W.isClsIn K C_InvalidText = true)
     (tyc_InvalidText : PySem.W.typeIn K (.ref C_InvalidText) = some (.type "type"))
     (a_NoMeeting : PySem.W.nsIn K mainGlobals "NoMeeting" = some (some (.ref C_NoMeeting)))
     (isc_NoMeeting : PySem.W.isClsIn K C_NoMeeting = true)
     (tyc_NoMeeting : PySem.W.typeIn K (.ref C_NoMeeting) = some (.type "type"))
     (a_Refused : PySem.W.nsIn K mainGlobals "Refused" = some (some (.ref C_Refused)))
     (isc_Refused : PySem.W.isClsIn K C_Refused = true)
     (tyc_Refused : PySem.W.typeIn K (.ref C_Refused) = some (.type "type"))
    {nm_InvalidDay q_InvalidDay : Str} {N_InvalidDay : Addr} {bs_InvalidDay : List Value} {sn_InvalidDay : List Str} {sb_InvalidDay : List Value} {ab_InvalidDay : Bool} {co_InvalidDay : Option Bool} {dd_InvalidDay : Option Addr} {z0_InvalidDay z1_InvalidDay z2_InvalidDay z3_InvalidDay z5_InvalidDay : Option Value} (xl_InvalidDay : K.lookup C_InvalidDay = some (excClassObj nm_InvalidDay q_InvalidDay C_InvalidDay N_InvalidDay bs_InvalidDay [.ref C_DimError, .type "ValueError", .type "Exception", .type "BaseException", .type "object"] true sn_InvalidDay sb_InvalidDay ab_InvalidDay co_InvalidDay dd_InvalidDay z0_InvalidDay z1_InvalidDay z2_InvalidDay z3_InvalidDay z5_InvalidDay "ValueError.__new__"))
     (xsa_InvalidDay : PySem.W.findIn K (.ref C_InvalidDay) "__setattr__" = some (some (.builtin "object.__setattr__")))
     (xga_InvalidDay : PySem.W.findIn K (.ref C_InvalidDay) "__getattribute__" = some (some (.builtin "BaseException.__getattribute__")))
     (xgg_InvalidDay : PySem.W.findIn K (.ref C_InvalidDay) "__getattr__" = some none)
     (xno_InvalidDay : PySem.W.findIn K (.ref C_InvalidDay) "word" = some none)
     (xi_InvalidDay : PySem.W.findIn K (.ref C_InvalidDay) "__init__" = some (some (.ref f_InvalidDay___init__)))
     (xt_InvalidDay : PySem.W.typeIn K (.ref f_InvalidDay___init__) = some (.type "function"))
    {oc_InvalidDay___init__ kV_InvalidDay___init__ do_InvalidDay___init__ pm_InvalidDay___init__ cd_InvalidDay___init__ ct_InvalidDay___init__ : Value} {od_InvalidDay___init__ an_InvalidDay___init__ : Option Addr} {sl_InvalidDay___init__ : Array (Option Value)} (l_InvalidDay___init__ : K.lookup f_InvalidDay___init__ = some ⟨oc_InvalidDay___init__, od_InvalidDay___init__, .func (PySem.W.fnOf "__init__" "InvalidDay.__init__" (defArgs s_InvalidDay___init__) (defBody s_InvalidDay___init__) (defScope s_InvalidDay___init__) .none kV_InvalidDay___init__ do_InvalidDay___init__ pm_InvalidDay___init__ an_InvalidDay___init__ cd_InvalidDay___init__ ct_InvalidDay___init__), sl_InvalidDay___init__⟩)
     (c_InvalidDay___init__ : PySem.W.codeIn K cd_InvalidDay___init__ "InvalidDay.__init__" = true)
     (k_InvalidDay___init__ : PySem.W.keepIn K (.ref f_InvalidDay___init__) = true)
     (xk_InvalidDay : PySem.W.keepIn K (.ref C_InvalidDay) = true)
     (xe_InvalidDay : PySem.W.subIn K (.ref C_InvalidDay) (.type "BaseException") = some true)
     (xd_InvalidDay : PySem.W.hasDictIn K C_InvalidDay = true)
     (xs_InvalidDay : PySem.W.subIn K (.ref C_InvalidDay) (.ref C_InvalidDay) = some true)
     (xcl_InvalidDay : PySem.W.findIn K (.ref C_InvalidDay) "__class__" = some (some (.builtin "object.__class__")))
     (xm_InvalidDay : PySem.W.mroIn K C_InvalidDay (.type "object") = some true)
    {nm_InvalidFrame q_InvalidFrame : Str} {N_InvalidFrame : Addr} {bs_InvalidFrame : List Value} {sn_InvalidFrame : List Str} {sb_InvalidFrame : List Value} {ab_InvalidFrame : Bool} {co_InvalidFrame : Option Bool} {dd_InvalidFrame : Option Addr} {z0_InvalidFrame z1_InvalidFrame z2_InvalidFrame z3_InvalidFrame z5_InvalidFrame : Option Value} (xl_InvalidFrame : K.lookup C_InvalidFrame = some (excClassObj nm_InvalidFrame q_InvalidFrame C_InvalidFrame N_InvalidFrame bs_InvalidFrame [.ref C_DimError, .type "ValueError", .type "Exception", .type "BaseException", .type "object"] true sn_InvalidFrame sb_InvalidFrame ab_InvalidFrame co_InvalidFrame dd_InvalidFrame z0_InvalidFrame z1_InvalidFrame z2_InvalidFrame z3_InvalidFrame z5_InvalidFrame "ValueError.__new__"))
     (xsa_InvalidFrame : PySem.W.findIn K (.ref C_InvalidFrame) "__setattr__" = some (some (.builtin "object.__setattr__")))
     (xga_InvalidFrame : PySem.W.findIn K (.ref C_InvalidFrame) "__getattribute__" = some (some (.builtin "BaseException.__getattribute__")))
     (xgg_InvalidFrame : PySem.W.findIn K (.ref C_InvalidFrame) "__getattr__" = some none)
     (xno_InvalidFrame : PySem.W.findIn K (.ref C_InvalidFrame) "word" = some none)
     (xi_InvalidFrame : PySem.W.findIn K (.ref C_InvalidFrame) "__init__" = some (some (.ref f_InvalidFrame___init__)))
     (xt_InvalidFrame : PySem.W.typeIn K (.ref f_InvalidFrame___init__) = some (.type "function"))
    {oc_InvalidFrame___init__ kV_InvalidFrame___init__ do_InvalidFrame___init__ pm_InvalidFrame___init__ cd_InvalidFrame___init__ ct_InvalidFrame___init__ : Value} {od_InvalidFrame___init__ an_InvalidFrame___init__ : Option Addr} {sl_InvalidFrame___init__ : Array (Option Value)} (l_InvalidFrame___init__ : K.lookup f_InvalidFrame___init__ = some ⟨oc_InvalidFrame___init__, od_InvalidFrame___init__, .func (PySem.W.fnOf "__init__" "InvalidFrame.__init__" (defArgs s_InvalidFrame___init__) (defBody s_InvalidFrame___init__) (defScope s_InvalidFrame___init__) .none kV_InvalidFrame___init__ do_InvalidFrame___init__ pm_InvalidFrame___init__ an_InvalidFrame___init__ cd_InvalidFrame___init__ ct_InvalidFrame___init__), sl_InvalidFrame___init__⟩)
     (c_InvalidFrame___init__ : PySem.W.codeIn K cd_InvalidFrame___init__ "InvalidFrame.__init__" = true)
     (k_InvalidFrame___init__ : PySem.W.keepIn K (.ref f_InvalidFrame___init__) = true)
     (xk_InvalidFrame : PySem.W.keepIn K (.ref C_InvalidFrame) = true)
     (xe_InvalidFrame : PySem.W.subIn K (.ref C_InvalidFrame) (.type "BaseException") = some true)
     (xd_InvalidFrame : PySem.W.hasDictIn K C_InvalidFrame = true)
     (xs_InvalidFrame : PySem.W.subIn K (.ref C_InvalidFrame) (.ref C_InvalidFrame) = some true)
     (xcl_InvalidFrame : PySem.W.findIn K (.ref C_InvalidFrame) "__class__" = some (some (.builtin "object.__class__")))
     (xm_InvalidFrame : PySem.W.mroIn K C_InvalidFrame (.type "object") = some true)
    {nm_InvalidLooks q_InvalidLooks : Str} {N_InvalidLooks : Addr} {bs_InvalidLooks : List Value} {sn_InvalidLooks : List Str} {sb_InvalidLooks : List Value} {ab_InvalidLooks : Bool} {co_InvalidLooks : Option Bool} {dd_InvalidLooks : Option Addr} {z0_InvalidLooks z1_InvalidLooks z2_InvalidLooks z3_InvalidLooks z5_InvalidLooks : Option Value} (xl_InvalidLooks : K.lookup C_InvalidLooks = some (excClassObj nm_InvalidLooks q_InvalidLooks C_InvalidLooks N_InvalidLooks bs_InvalidLooks [.ref C_DimError, .type "ValueError", .type "Exception", .type "BaseException", .type "object"] true sn_InvalidLooks sb_InvalidLooks ab_InvalidLooks co_InvalidLooks dd_InvalidLooks z0_InvalidLooks z1_InvalidLooks z2_InvalidLooks z3_InvalidLooks z5_InvalidLooks "ValueError.__new__"))
     (xsa_InvalidLooks : PySem.W.findIn K (.ref C_InvalidLooks) "__setattr__" = some (some (.builtin "object.__setattr__")))
     (xga_InvalidLooks : PySem.W.findIn K (.ref C_InvalidLooks) "__getattribute__" = some (some (.builtin "BaseException.__getattribute__")))
     (xgg_InvalidLooks : PySem.W.findIn K (.ref C_InvalidLooks) "__getattr__" = some none)
     (xno_InvalidLooks : PySem.W.findIn K (.ref C_InvalidLooks) "at" = some none)
     (xi_InvalidLooks : PySem.W.findIn K (.ref C_InvalidLooks) "__init__" = some (some (.ref f_InvalidLooks___init__)))
     (xt_InvalidLooks : PySem.W.typeIn K (.ref f_InvalidLooks___init__) = some (.type "function"))
    {oc_InvalidLooks___init__ kV_InvalidLooks___init__ do_InvalidLooks___init__ pm_InvalidLooks___init__ cd_InvalidLooks___init__ ct_InvalidLooks___init__ : Value} {od_InvalidLooks___init__ an_InvalidLooks___init__ : Option Addr} {sl_InvalidLooks___init__ : Array (Option Value)} (l_InvalidLooks___init__ : K.lookup f_InvalidLooks___init__ = some ⟨oc_InvalidLooks___init__, od_InvalidLooks___init__, .func (PySem.W.fnOf "__init__" "InvalidLooks.__init__" (defArgs s_InvalidLooks___init__) (defBody s_InvalidLooks___init__) (defScope s_InvalidLooks___init__) .none kV_InvalidLooks___init__ do_InvalidLooks___init__ pm_InvalidLooks___init__ an_InvalidLooks___init__ cd_InvalidLooks___init__ ct_InvalidLooks___init__), sl_InvalidLooks___init__⟩)
     (c_InvalidLooks___init__ : PySem.W.codeIn K cd_InvalidLooks___init__ "InvalidLooks.__init__" = true)
     (k_InvalidLooks___init__ : PySem.W.keepIn K (.ref f_InvalidLooks___init__) = true)
     (xk_InvalidLooks : PySem.W.keepIn K (.ref C_InvalidLooks) = true)
     (xe_InvalidLooks : PySem.W.subIn K (.ref C_InvalidLooks) (.type "BaseException") = some true)
     (xd_InvalidLooks : PySem.W.hasDictIn K C_InvalidLooks = true)
     (xs_InvalidLooks : PySem.W.subIn K (.ref C_InvalidLooks) (.ref C_InvalidLooks) = some true)
     (xcl_InvalidLooks : PySem.W.findIn K (.ref C_InvalidLooks) "__class__" = some (some (.builtin "object.__class__")))
     (xm_InvalidLooks : PySem.W.mroIn K C_InvalidLooks (.type "object") = some true)
    {nm_InvalidRule q_InvalidRule : Str} {N_InvalidRule : Addr} {bs_InvalidRule : List Value} {sn_InvalidRule : List Str} {sb_InvalidRule : List Value} {ab_InvalidRule : Bool} {co_InvalidRule : Option Bool} {dd_InvalidRule : Option Addr} {z0_InvalidRule z1_InvalidRule z2_InvalidRule z3_InvalidRule z5_InvalidRule : Option Value} (xl_InvalidRule : K.lookup C_InvalidRule = some (excClassObj nm_InvalidRule q_InvalidRule C_InvalidRule N_InvalidRule bs_InvalidRule [.ref C_DimError, .type "ValueError", .type "Exception", .type "BaseException", .type "object"] true sn_InvalidRule sb_InvalidRule ab_InvalidRule co_InvalidRule dd_InvalidRule z0_InvalidRule z1_InvalidRule z2_InvalidRule z3_InvalidRule z5_InvalidRule "ValueError.__new__"))
     (xsa_InvalidRule : PySem.W.findIn K (.ref C_InvalidRule) "__setattr__" = some (some (.builtin "object.__setattr__")))
     (xga_InvalidRule : PySem.W.findIn K (.ref C_InvalidRule) "__getattribute__" = some (some (.builtin "BaseException.__getattribute__")))
     (xgg_InvalidRule : PySem.W.findIn K (.ref C_InvalidRule) "__getattr__" = some none)
     (xno_InvalidRule : PySem.W.findIn K (.ref C_InvalidRule) "word" = some none)
     (xi_InvalidRule : PySem.W.findIn K (.ref C_InvalidRule) "__init__" = some (some (.ref f_InvalidRule___init__)))
     (xt_InvalidRule : PySem.W.typeIn K (.ref f_InvalidRule___init__) = some (.type "function"))
    {oc_InvalidRule___init__ kV_InvalidRule___init__ do_InvalidRule___init__ pm_InvalidRule___init__ cd_InvalidRule___init__ ct_InvalidRule___init__ : Value} {od_InvalidRule___init__ an_InvalidRule___init__ : Option Addr} {sl_InvalidRule___init__ : Array (Option Value)} (l_InvalidRule___init__ : K.lookup f_InvalidRule___init__ = some ⟨oc_InvalidRule___init__, od_InvalidRule___init__, .func (PySem.W.fnOf "__init__" "InvalidRule.__init__" (defArgs s_InvalidRule___init__) (defBody s_InvalidRule___init__) (defScope s_InvalidRule___init__) .none kV_InvalidRule___init__ do_InvalidRule___init__ pm_InvalidRule___init__ an_InvalidRule___init__ cd_InvalidRule___init__ ct_InvalidRule___init__), sl_InvalidRule___init__⟩)
     (c_InvalidRule___init__ : PySem.W.codeIn K cd_InvalidRule___init__ "InvalidRule.__init__" = true)
     (k_InvalidRule___init__ : PySem.W.keepIn K (.ref f_InvalidRule___init__) = true)
     (xk_InvalidRule : PySem.W.keepIn K (.ref C_InvalidRule) = true)
     (xe_InvalidRule : PySem.W.subIn K (.ref C_InvalidRule) (.type "BaseException") = some true)
     (xd_InvalidRule : PySem.W.hasDictIn K C_InvalidRule = true)
     (xs_InvalidRule : PySem.W.subIn K (.ref C_InvalidRule) (.ref C_InvalidRule) = some true)
     (xcl_InvalidRule : PySem.W.findIn K (.ref C_InvalidRule) "__class__" = some (some (.builtin "object.__class__")))
     (xm_InvalidRule : PySem.W.mroIn K C_InvalidRule (.type "object") = some true)
    {nm_InvalidText q_InvalidText : Str} {N_InvalidText : Addr} {bs_InvalidText : List Value} {sn_InvalidText : List Str} {sb_InvalidText : List Value} {ab_InvalidText : Bool} {co_InvalidText : Option Bool} {dd_InvalidText : Option Addr} {z0_InvalidText z1_InvalidText z2_InvalidText z3_InvalidText z5_InvalidText : Option Value} (xl_InvalidText : K.lookup C_InvalidText = some (excClassObj nm_InvalidText q_InvalidText C_InvalidText N_InvalidText bs_InvalidText [.ref C_DimError, .type "ValueError", .type "Exception", .type "BaseException", .type "object"] true sn_InvalidText sb_InvalidText ab_InvalidText co_InvalidText dd_InvalidText z0_InvalidText z1_InvalidText z2_InvalidText z3_InvalidText z5_InvalidText "ValueError.__new__"))
     (xsa_InvalidText : PySem.W.findIn K (.ref C_InvalidText) "__setattr__" = some (some (.builtin "object.__setattr__")))
     (xga_InvalidText : PySem.W.findIn K (.ref C_InvalidText) "__getattribute__" = some (some (.builtin "BaseException.__getattribute__")))
     (xgg_InvalidText : PySem.W.findIn K (.ref C_InvalidText) "__getattr__" = some none)
     (xno_InvalidText : PySem.W.findIn K (.ref C_InvalidText) "at" = some none)
     (xi_InvalidText : PySem.W.findIn K (.ref C_InvalidText) "__init__" = some (some (.ref f_InvalidText___init__)))
     (xt_InvalidText : PySem.W.typeIn K (.ref f_InvalidText___init__) = some (.type "function"))
    {oc_InvalidText___init__ kV_InvalidText___init__ do_InvalidText___init__ pm_InvalidText___init__ cd_InvalidText___init__ ct_InvalidText___init__ : Value} {od_InvalidText___init__ an_InvalidText___init__ : Option Addr} {sl_InvalidText___init__ : Array (Option Value)} (l_InvalidText___init__ : K.lookup f_InvalidText___init__ = some ⟨oc_InvalidText___init__, od_InvalidText___init__, .func (PySem.W.fnOf "__init__" "InvalidText.__init__" (defArgs s_InvalidText___init__) (defBody s_InvalidText___init__) (defScope s_InvalidText___init__) .none kV_InvalidText___init__ do_InvalidText___init__ pm_InvalidText___init__ an_InvalidText___init__ cd_InvalidText___init__ ct_InvalidText___init__), sl_InvalidText___init__⟩)
     (c_InvalidText___init__ : PySem.W.codeIn K cd_InvalidText___init__ "InvalidText.__init__" = true)
     (k_InvalidText___init__ : PySem.W.keepIn K (.ref f_InvalidText___init__) = true)
     (xk_InvalidText : PySem.W.keepIn K (.ref C_InvalidText) = true)
     (xe_InvalidText : PySem.W.subIn K (.ref C_InvalidText) (.type "BaseException") = some true)
     (xd_InvalidText : PySem.W.hasDictIn K C_InvalidText = true)
     (xs_InvalidText : PySem.W.subIn K (.ref C_InvalidText) (.ref C_InvalidText) = some true)
     (xcl_InvalidText : PySem.W.findIn K (.ref C_InvalidText) "__class__" = some (some (.builtin "object.__class__")))
     (xm_InvalidText : PySem.W.mroIn K C_InvalidText (.type "object") = some true)
    {nm_NoMeeting q_NoMeeting : Str} {N_NoMeeting : Addr} {bs_NoMeeting : List Value} {sn_NoMeeting : List Str} {sb_NoMeeting : List Value} {ab_NoMeeting : Bool} {co_NoMeeting : Option Bool} {dd_NoMeeting : Option Addr} {z0_NoMeeting z1_NoMeeting z2_NoMeeting z3_NoMeeting z5_NoMeeting : Option Value} (xl_NoMeeting : K.lookup C_NoMeeting = some (excClassObj nm_NoMeeting q_NoMeeting C_NoMeeting N_NoMeeting bs_NoMeeting [.type "IndexError", .type "LookupError", .type "Exception", .type "BaseException", .type "object"] true sn_NoMeeting sb_NoMeeting ab_NoMeeting co_NoMeeting dd_NoMeeting z0_NoMeeting z1_NoMeeting z2_NoMeeting z3_NoMeeting z5_NoMeeting "IndexError.__new__"))
     (xsa_NoMeeting : PySem.W.findIn K (.ref C_NoMeeting) "__setattr__" = some (some (.builtin "object.__setattr__")))
     (xga_NoMeeting : PySem.W.findIn K (.ref C_NoMeeting) "__getattribute__" = some (some (.builtin "BaseException.__getattribute__")))
     (xgg_NoMeeting : PySem.W.findIn K (.ref C_NoMeeting) "__getattr__" = some none)
     (xno_NoMeeting : PySem.W.findIn K (.ref C_NoMeeting) "at" = some none)
     (xi_NoMeeting : PySem.W.findIn K (.ref C_NoMeeting) "__init__" = some (some (.ref f_NoMeeting___init__)))
     (xt_NoMeeting : PySem.W.typeIn K (.ref f_NoMeeting___init__) = some (.type "function"))
    {oc_NoMeeting___init__ kV_NoMeeting___init__ do_NoMeeting___init__ pm_NoMeeting___init__ cd_NoMeeting___init__ ct_NoMeeting___init__ : Value} {od_NoMeeting___init__ an_NoMeeting___init__ : Option Addr} {sl_NoMeeting___init__ : Array (Option Value)} (l_NoMeeting___init__ : K.lookup f_NoMeeting___init__ = some ⟨oc_NoMeeting___init__, od_NoMeeting___init__, .func (PySem.W.fnOf "__init__" "NoMeeting.__init__" (defArgs s_NoMeeting___init__) (defBody s_NoMeeting___init__) (defScope s_NoMeeting___init__) .none kV_NoMeeting___init__ do_NoMeeting___init__ pm_NoMeeting___init__ an_NoMeeting___init__ cd_NoMeeting___init__ ct_NoMeeting___init__), sl_NoMeeting___init__⟩)
     (c_NoMeeting___init__ : PySem.W.codeIn K cd_NoMeeting___init__ "NoMeeting.__init__" = true)
     (k_NoMeeting___init__ : PySem.W.keepIn K (.ref f_NoMeeting___init__) = true)
     (xk_NoMeeting : PySem.W.keepIn K (.ref C_NoMeeting) = true)
     (xe_NoMeeting : PySem.W.subIn K (.ref C_NoMeeting) (.type "BaseException") = some true)
     (xd_NoMeeting : PySem.W.hasDictIn K C_NoMeeting = true)
     (xs_NoMeeting : PySem.W.subIn K (.ref C_NoMeeting) (.ref C_NoMeeting) = some true)
     (xcl_NoMeeting : PySem.W.findIn K (.ref C_NoMeeting) "__class__" = some (some (.builtin "object.__class__")))
     (xm_NoMeeting : PySem.W.mroIn K C_NoMeeting (.type "object") = some true)
    {nm_Refused q_Refused : Str} {N_Refused : Addr} {bs_Refused : List Value} {sn_Refused : List Str} {sb_Refused : List Value} {ab_Refused : Bool} {co_Refused : Option Bool} {dd_Refused : Option Addr} {z0_Refused z1_Refused z2_Refused z3_Refused z5_Refused : Option Value} (xl_Refused : K.lookup C_Refused = some (excClassObj nm_Refused q_Refused C_Refused N_Refused bs_Refused [.ref C_DimError, .type "ValueError", .type "Exception", .type "BaseException", .type "object"] true sn_Refused sb_Refused ab_Refused co_Refused dd_Refused z0_Refused z1_Refused z2_Refused z3_Refused z5_Refused "ValueError.__new__"))
     (xsa_Refused : PySem.W.findIn K (.ref C_Refused) "__setattr__" = some (some (.builtin "object.__setattr__")))
     (xga_Refused : PySem.W.findIn K (.ref C_Refused) "__getattribute__" = some (some (.builtin "BaseException.__getattribute__")))
     (xgg_Refused : PySem.W.findIn K (.ref C_Refused) "__getattr__" = some none)
     (xno_Refused : PySem.W.findIn K (.ref C_Refused) "at" = some none)
     (xi_Refused : PySem.W.findIn K (.ref C_Refused) "__init__" = some (some (.ref f_Refused___init__)))
     (xt_Refused : PySem.W.typeIn K (.ref f_Refused___init__) = some (.type "function"))
    {oc_Refused___init__ kV_Refused___init__ do_Refused___init__ pm_Refused___init__ cd_Refused___init__ ct_Refused___init__ : Value} {od_Refused___init__ an_Refused___init__ : Option Addr} {sl_Refused___init__ : Array (Option Value)} (l_Refused___init__ : K.lookup f_Refused___init__ = some ⟨oc_Refused___init__, od_Refused___init__, .func (PySem.W.fnOf "__init__" "Refused.__init__" (defArgs s_Refused___init__) (defBody s_Refused___init__) (defScope s_Refused___init__) .none kV_Refused___init__ do_Refused___init__ pm_Refused___init__ an_Refused___init__ cd_Refused___init__ ct_Refused___init__), sl_Refused___init__⟩)
     (c_Refused___init__ : PySem.W.codeIn K cd_Refused___init__ "Refused.__init__" = true)
     (k_Refused___init__ : PySem.W.keepIn K (.ref f_Refused___init__) = true)
     (xk_Refused : PySem.W.keepIn K (.ref C_Refused) = true)
     (xe_Refused : PySem.W.subIn K (.ref C_Refused) (.type "BaseException") = some true)
     (xd_Refused : PySem.W.hasDictIn K C_Refused = true)
     (xs_Refused : PySem.W.subIn K (.ref C_Refused) (.ref C_Refused) = some true)
     (xcl_Refused : PySem.W.findIn K (.ref C_Refused) "__class__" = some (some (.builtin "object.__class__")))
     (xm_Refused : PySem.W.mroIn K C_Refused (.type "object") = some true)
     (xga_InvalidSlot : PySem.W.findIn K (.ref C_InvalidSlot) "__getattribute__" = some (some (.builtin "BaseException.__getattribute__")))
     (xgg_InvalidSlot : PySem.W.findIn K (.ref C_InvalidSlot) "__getattr__" = some none)
     (xk_InvalidSlot : PySem.W.keepIn K (.ref C_InvalidSlot) = true)
     (xe_InvalidSlot : PySem.W.subIn K (.ref C_InvalidSlot) (.type "BaseException") = some true)
     (xd_InvalidSlot : PySem.W.hasDictIn K C_InvalidSlot = true)
     (xs_InvalidSlot : PySem.W.subIn K (.ref C_InvalidSlot) (.ref C_InvalidSlot) = some true)
     (xcl_InvalidSlot : PySem.W.findIn K (.ref C_InvalidSlot) "__class__" = some (some (.builtin "object.__class__")))
     (xm_InvalidSlot : PySem.W.mroIn K C_InvalidSlot (.type "object") = some true)
     (ei_InvalidSlot : PySem.W.excIn K C_InvalidSlot [.type "ValueError", .type "Exception", .type "BaseException", .type "object"] "ValueError.__new__" = true)
     (xga_InvalidCommand : PySem.W.findIn K (.ref C_InvalidCommand) "__getattribute__" = some (some (.builtin "BaseException.__getattribute__")))
     (xgg_InvalidCommand : PySem.W.findIn K (.ref C_InvalidCommand) "__getattr__" = some none)
     (xk_InvalidCommand : PySem.W.keepIn K (.ref C_InvalidCommand) = true)
     (xe_InvalidCommand : PySem.W.subIn K (.ref C_InvalidCommand) (.type "BaseException") = some true)
     (xd_InvalidCommand : PySem.W.hasDictIn K C_InvalidCommand = true)
     (xs_InvalidCommand : PySem.W.subIn K (.ref C_InvalidCommand) (.ref C_InvalidCommand) = some true)
     (xcl_InvalidCommand : PySem.W.findIn K (.ref C_InvalidCommand) "__class__" = some (some (.builtin "object.__class__")))
     (xm_InvalidCommand : PySem.W.mroIn K C_InvalidCommand (.type "object") = some true)
     (ei_InvalidCommand : PySem.W.excIn K C_InvalidCommand [.type "ValueError", .type "Exception", .type "BaseException", .type "object"] "ValueError.__new__" = true)
     (xk_InvalidCommand_DimError : PySem.W.subIn K (.ref C_InvalidCommand) (.ref C_DimError) = some true)
     (xk_InvalidCommand_InvalidCommand : PySem.W.subIn K (.ref C_InvalidCommand) (.ref C_InvalidCommand) = some true)
     (xk_InvalidCommand_InvalidDay : PySem.W.subIn K (.ref C_InvalidCommand) (.ref C_InvalidDay) = some false)
     (xk_InvalidCommand_InvalidFrame : PySem.W.subIn K (.ref C_InvalidCommand) (.ref C_InvalidFrame) = some false)
     (xk_InvalidCommand_InvalidLooks : PySem.W.subIn K (.ref C_InvalidCommand) (.ref C_InvalidLooks) = some false)
     (xk_InvalidCommand_InvalidRule : PySem.W.subIn K (.ref C_InvalidCommand) (.ref C_InvalidRule) = some false)
     (xk_InvalidCommand_InvalidSlot : PySem.W.subIn K (.ref C_InvalidCommand) (.ref C_InvalidSlot) = some false)
     (xk_InvalidCommand_InvalidText : PySem.W.subIn K (.ref C_InvalidCommand) (.ref C_InvalidText) = some false)
     (xk_InvalidCommand_NoMeeting : PySem.W.subIn K (.ref C_InvalidCommand) (.ref C_NoMeeting) = some false)
     (xk_InvalidCommand_Refused : PySem.W.subIn K (.ref C_InvalidCommand) (.ref C_Refused) = some false)
     (xk_InvalidDay_DimError : PySem.W.subIn K (.ref C_InvalidDay) (.ref C_DimError) = some true)
     (xk_InvalidDay_InvalidCommand : PySem.W.subIn K (.ref C_InvalidDay) (.ref C_InvalidCommand) = some false)
     (xk_InvalidDay_InvalidDay : PySem.W.subIn K (.ref C_InvalidDay) (.ref C_InvalidDay) = some true)
     (xk_InvalidDay_InvalidFrame : PySem.W.subIn K (.ref C_InvalidDay) (.ref C_InvalidFrame) = some false)
     (xk_InvalidDay_InvalidLooks : PySem.W.subIn K (.ref C_InvalidDay) (.ref C_InvalidLooks) = some false)
     (xk_InvalidDay_InvalidRule : PySem.W.subIn K (.ref C_InvalidDay) (.ref C_InvalidRule) = some false)
     (xk_InvalidDay_InvalidSlot : PySem.W.subIn K (.ref C_InvalidDay) (.ref C_InvalidSlot) = some false)
     (xk_InvalidDay_InvalidText : PySem.W.subIn K (.ref C_InvalidDay) (.ref C_InvalidText) = some false)
     (xk_InvalidDay_NoMeeting : PySem.W.subIn K (.ref C_InvalidDay) (.ref C_NoMeeting) = some false)
     (xk_InvalidDay_Refused : PySem.W.subIn K (.ref C_InvalidDay) (.ref C_Refused) = some false)
     (xk_InvalidFrame_DimError : PySem.W.subIn K (.ref C_InvalidFrame) (.ref C_DimError) = some true)
     (xk_InvalidFrame_InvalidCommand : PySem.W.subIn K (.ref C_InvalidFrame) (.ref C_InvalidCommand) = some false)
     (xk_InvalidFrame_InvalidDay : PySem.W.subIn K (.ref C_InvalidFrame) (.ref C_InvalidDay) = some false)
     (xk_InvalidFrame_InvalidFrame : PySem.W.subIn K (.ref C_InvalidFrame) (.ref C_InvalidFrame) = some true)
     (xk_InvalidFrame_InvalidLooks : PySem.W.subIn K (.ref C_InvalidFrame) (.ref C_InvalidLooks) = some false)
     (xk_InvalidFrame_InvalidRule : PySem.W.subIn K (.ref C_InvalidFrame) (.ref C_InvalidRule) = some false)
     (xk_InvalidFrame_InvalidSlot : PySem.W.subIn K (.ref C_InvalidFrame) (.ref C_InvalidSlot) = some false)
     (xk_InvalidFrame_InvalidText : PySem.W.subIn K (.ref C_InvalidFrame) (.ref C_InvalidText) = some false)
     (xk_InvalidFrame_NoMeeting : PySem.W.subIn K (.ref C_InvalidFrame) (.ref C_NoMeeting) = some false)
     (xk_InvalidFrame_Refused : PySem.W.subIn K (.ref C_InvalidFrame) (.ref C_Refused) = some false)
     (xk_InvalidLooks_DimError : PySem.W.subIn K (.ref C_InvalidLooks) (.ref C_DimError) = some true)
     (xk_InvalidLooks_InvalidCommand : PySem.W.subIn K (.ref C_InvalidLooks) (.ref C_InvalidCommand) = some false)
     (xk_InvalidLooks_InvalidDay : PySem.W.subIn K (.ref C_InvalidLooks) (.ref C_InvalidDay) = some false)
     (xk_InvalidLooks_InvalidFrame : PySem.W.subIn K (.ref C_InvalidLooks) (.ref C_InvalidFrame) = some false)
     (xk_InvalidLooks_InvalidLooks : PySem.W.subIn K (.ref C_InvalidLooks) (.ref C_InvalidLooks) = some true)
     (xk_InvalidLooks_InvalidRule : PySem.W.subIn K (.ref C_InvalidLooks) (.ref C_InvalidRule) = some false)
     (xk_InvalidLooks_InvalidSlot : PySem.W.subIn K (.ref C_InvalidLooks) (.ref C_InvalidSlot) = some false)
     (xk_InvalidLooks_InvalidText : PySem.W.subIn K (.ref C_InvalidLooks) (.ref C_InvalidText) = some false)
     (xk_InvalidLooks_NoMeeting : PySem.W.subIn K (.ref C_InvalidLooks) (.ref C_NoMeeting) = some false)
     (xk_InvalidLooks_Refused : PySem.W.subIn K (.ref C_InvalidLooks) (.ref C_Refused) = some false)
     (xk_InvalidRule_DimError : PySem.W.subIn K (.ref C_InvalidRule) (.ref C_DimError) = some true)
     (xk_InvalidRule_InvalidCommand : PySem.W.subIn K (.ref C_InvalidRule) (.ref C_InvalidCommand) = some false)
     (xk_InvalidRule_InvalidDay : PySem.W.subIn K (.ref C_InvalidRule) (.ref C_InvalidDay) = some false)
     (xk_InvalidRule_InvalidFrame : PySem.W.subIn K (.ref C_InvalidRule) (.ref C_InvalidFrame) = some false)
     (xk_InvalidRule_InvalidLooks : PySem.W.subIn K (.ref C_InvalidRule) (.ref C_InvalidLooks) = some false)
     (xk_InvalidRule_InvalidRule : PySem.W.subIn K (.ref C_InvalidRule) (.ref C_InvalidRule) = some true)
     (xk_InvalidRule_InvalidSlot : PySem.W.subIn K (.ref C_InvalidRule) (.ref C_InvalidSlot) = some false)
     (xk_InvalidRule_InvalidText : PySem.W.subIn K (.ref C_InvalidRule) (.ref C_InvalidText) = some false)
     (xk_InvalidRule_NoMeeting : PySem.W.subIn K (.ref C_InvalidRule) (.ref C_NoMeeting) = some false)
     (xk_InvalidRule_Refused : PySem.W.subIn K (.ref C_InvalidRule) (.ref C_Refused) = some false)
     (xk_InvalidSlot_DimError : PySem.W.subIn K (.ref C_InvalidSlot) (.ref C_DimError) = some true)
     (xk_InvalidSlot_InvalidCommand : PySem.W.subIn K (.ref C_InvalidSlot) (.ref C_InvalidCommand) = some false)
     (xk_InvalidSlot_InvalidDay : PySem.W.subIn K (.ref C_InvalidSlot) (.ref C_InvalidDay) = some false)
     (xk_InvalidSlot_InvalidFrame : PySem.W.subIn K (.ref C_InvalidSlot) (.ref C_InvalidFrame) = some false)
     (xk_InvalidSlot_InvalidLooks : PySem.W.subIn K (.ref C_InvalidSlot) (.ref C_InvalidLooks) = some false)
     (xk_InvalidSlot_InvalidRule : PySem.W.subIn K (.ref C_InvalidSlot) (.ref C_InvalidRule) = some false)
     (xk_InvalidSlot_InvalidSlot : PySem.W.subIn K (.ref C_InvalidSlot) (.ref C_InvalidSlot) = some true)
     (xk_InvalidSlot_InvalidText : PySem.W.subIn K (.ref C_InvalidSlot) (.ref C_InvalidText) = some false)
     (xk_InvalidSlot_NoMeeting : PySem.W.subIn K (.ref C_InvalidSlot) (.ref C_NoMeeting) = some false)
     (xk_InvalidSlot_Refused : PySem.W.subIn K (.ref C_InvalidSlot) (.ref C_Refused) = some false)
     (xk_InvalidText_DimError : PySem.W.subIn K (.ref C_InvalidText) (.ref C_DimError) = some true)
     (xk_InvalidText_InvalidCommand : PySem.W.subIn K (.ref C_InvalidText) (.ref C_InvalidCommand) = some false)
     (xk_InvalidText_InvalidDay : PySem.W.subIn K (.ref C_InvalidText) (.ref C_InvalidDay) = some false)
     (xk_InvalidText_InvalidFrame : PySem.W.subIn K (.ref C_InvalidText) (.ref C_InvalidFrame) = some false)
     (xk_InvalidText_InvalidLooks : PySem.W.subIn K (.ref C_InvalidText) (.ref C_InvalidLooks) = some false)
     (xk_InvalidText_InvalidRule : PySem.W.subIn K (.ref C_InvalidText) (.ref C_InvalidRule) = some false)
     (xk_InvalidText_InvalidSlot : PySem.W.subIn K (.ref C_InvalidText) (.ref C_InvalidSlot) = some false)
     (xk_InvalidText_InvalidText : PySem.W.subIn K (.ref C_InvalidText) (.ref C_InvalidText) = some true)
     (xk_InvalidText_NoMeeting : PySem.W.subIn K (.ref C_InvalidText) (.ref C_NoMeeting) = some false)
     (xk_InvalidText_Refused : PySem.W.subIn K (.ref C_InvalidText) (.ref C_Refused) = some false)
     (xk_NoMeeting_DimError : PySem.W.subIn K (.ref C_NoMeeting) (.ref C_DimError) = some false)
     (xk_NoMeeting_InvalidCommand : PySem.W.subIn K (.ref C_NoMeeting) (.ref C_InvalidCommand) = some false)
     (xk_NoMeeting_InvalidDay : PySem.W.subIn K (.ref C_NoMeeting) (.ref C_InvalidDay) = some false)
     (xk_NoMeeting_InvalidFrame : PySem.W.subIn K (.ref C_NoMeeting) (.ref C_InvalidFrame) = some false)
     (xk_NoMeeting_InvalidLooks : PySem.W.subIn K (.ref C_NoMeeting) (.ref C_InvalidLooks) = some false)
     (xk_NoMeeting_InvalidRule : PySem.W.subIn K (.ref C_NoMeeting) (.ref C_InvalidRule) = some false)
     (xk_NoMeeting_InvalidSlot : PySem.W.subIn K (.ref C_NoMeeting) (.ref C_InvalidSlot) = some false)
     (xk_NoMeeting_InvalidText : PySem.W.subIn K (.ref C_NoMeeting) (.ref C_InvalidText) = some false)
     (xk_NoMeeting_NoMeeting : PySem.W.subIn K (.ref C_NoMeeting) (.ref C_NoMeeting) = some true)
     (xk_NoMeeting_Refused : PySem.W.subIn K (.ref C_NoMeeting) (.ref C_Refused) = some false)
     (xk_Refused_DimError : PySem.W.subIn K (.ref C_Refused) (.ref C_DimError) = some true)
     (xk_Refused_InvalidCommand : PySem.W.subIn K (.ref C_Refused) (.ref C_InvalidCommand) = some false)
     (xk_Refused_InvalidDay : PySem.W.subIn K (.ref C_Refused) (.ref C_InvalidDay) = some false)
     (xk_Refused_InvalidFrame : PySem.W.subIn K (.ref C_Refused) (.ref C_InvalidFrame) = some false)
     (xk_Refused_InvalidLooks : PySem.W.subIn K (.ref C_Refused) (.ref C_InvalidLooks) = some false)
     (xk_Refused_InvalidRule : PySem.W.subIn K (.ref C_Refused) (.ref C_InvalidRule) = some false)
     (xk_Refused_InvalidSlot : PySem.W.subIn K (.ref C_Refused) (.ref C_InvalidSlot) = some false)
     (xk_Refused_InvalidText : PySem.W.subIn K (.ref C_Refused) (.ref C_InvalidText) = some false)
     (xk_Refused_NoMeeting : PySem.W.subIn K (.ref C_Refused) (.ref C_NoMeeting) = some false)
     (xk_Refused_Refused : PySem.W.subIn K (.ref C_Refused) (.ref C_Refused) = some true)
     (xk_InvalidCommand_IndexError : PySem.W.subIn K (.ref C_InvalidCommand) (.type "IndexError") = some false)
     (xk_InvalidCommand_ValueError : PySem.W.subIn K (.ref C_InvalidCommand) (.type "ValueError") = some true)
     (xk_InvalidDay_IndexError : PySem.W.subIn K (.ref C_InvalidDay) (.type "IndexError") = some false)
     (xk_InvalidDay_ValueError : PySem.W.subIn K (.ref C_InvalidDay) (.type "ValueError") = some true)
     (xk_InvalidFrame_IndexError : PySem.W.subIn K (.ref C_InvalidFrame) (.type "IndexError") = some false)
     (xk_InvalidFrame_ValueError : PySem.W.subIn K (.ref C_InvalidFrame) (.type "ValueError") = some true)
     (xk_InvalidLooks_IndexError : PySem.W.subIn K (.ref C_InvalidLooks) (.type "IndexError") = some false)
     (xk_InvalidLooks_ValueError : PySem.W.subIn K (.ref C_InvalidLooks) (.type "ValueError") = some true)
     (xk_InvalidRule_IndexError : PySem.W.subIn K (.ref C_InvalidRule) (.type "IndexError") = some false)
     (xk_InvalidRule_ValueError : PySem.W.subIn K (.ref C_InvalidRule) (.type "ValueError") = some true)
     (xk_InvalidSlot_IndexError : PySem.W.subIn K (.ref C_InvalidSlot) (.type "IndexError") = some false)
     (xk_InvalidSlot_ValueError : PySem.W.subIn K (.ref C_InvalidSlot) (.type "ValueError") = some true)
     (xk_InvalidText_IndexError : PySem.W.subIn K (.ref C_InvalidText) (.type "IndexError") = some false)
     (xk_InvalidText_ValueError : PySem.W.subIn K (.ref C_InvalidText) (.type "ValueError") = some true)
     (xk_NoMeeting_IndexError : PySem.W.subIn K (.ref C_NoMeeting) (.type "IndexError") = some true)
     (xk_NoMeeting_ValueError : PySem.W.subIn K (.ref C_NoMeeting) (.type "ValueError") = some false)
     (xk_Refused_IndexError : PySem.W.subIn K (.ref C_Refused) (.type "IndexError") = some false)
     (xk_Refused_ValueError : PySem.W.subIn K (.ref C_Refused) (.type "ValueError") = some true)
     (b_IndexError : PySem.W.nsIn K mainGlobals "IndexError" = some none)
     (b_ValueError : PySem.W.nsIn K mainGlobals "ValueError" = some none)
     (b_abs : PySem.W.nsIn K mainGlobals "abs" = some none)
     (b_enumerate : PySem.W.nsIn K mainGlobals "enumerate" = some none)
     (b_int : PySem.W.nsIn K mainGlobals "int" = some none)
     (b_isinstance : PySem.W.nsIn K mainGlobals "isinstance" = some none)
     (b_len : PySem.W.nsIn K mainGlobals "len" = some none)
     (b_max : PySem.W.nsIn K mainGlobals "max" = some none)
     (b_min : PySem.W.nsIn K mainGlobals "min" = some none)
     (b_range : PySem.W.nsIn K mainGlobals "range" = some none)
     (b_repr : PySem.W.nsIn K mainGlobals "repr" = some none)
     (b_tuple : PySem.W.nsIn K mainGlobals "tuple" = some none)
    : ∃ fd : FuncData, (∀ (s : Shared) (v : Value), BindsTo s fd ⟨[v], []⟩ [("_law_script", v)]) ∧ ∀ base : Heap, K.In base → base.Ns mainGlobals mg → FnG l.prog w K mg base 14 fa fd ["_law_script"] (spLaw K) := by
  have e := hfa.symm.trans (PySem.W.mg_of X G a_law)
  cases e
  have T : Txt K mg { f__law_choose := f__law_choose, f__law_one_of := f__law_one_of, f__law_leaf := f__law_leaf, f__law_any := f__law_any, f__law_kept := f__law_kept, f__law_made := f__law_made, f__law_seed := f__law_seed, f__law_sorts := f__law_sorts, f_law := fa, C_DimError := C_DimError, C_InvalidCommand := C_InvalidCommand, C_InvalidDay := C_InvalidDay, C_InvalidFrame := C_InvalidFrame, C_InvalidLooks := C_InvalidLooks, C_InvalidRule := C_InvalidRule, C_InvalidSlot := C_InvalidSlot, C_InvalidText := C_InvalidText, C_NoMeeting := C_NoMeeting, C_Refused := C_Refused, f_InvalidDay___init__ := f_InvalidDay___init__, f_InvalidFrame___init__ := f_InvalidFrame___init__, f_InvalidLooks___init__ := f_InvalidLooks___init__, f_InvalidRule___init__ := f_InvalidRule___init__, f_InvalidText___init__ := f_InvalidText___init__, f_NoMeeting___init__ := f_NoMeeting___init__, f_Refused___init__ := f_Refused___init__ } := { m__law_choose := PySem.W.mg_of X G a__law_choose, k__law_choose := k__law_choose, F__law_choose := ⟨_, fun_mk (st := s__law_choose) l__law_choose c__law_choose k__law_choose⟩, m__law_one_of := PySem.W.mg_of X G a__law_one_of, k__law_one_of := k__law_one_of, F__law_one_of := ⟨_, fun_mk (st := s__law_one_of) l__law_one_of c__law_one_of k__law_one_of⟩, m__law_leaf := PySem.W.mg_of X G a__law_leaf, k__law_leaf := k__law_leaf, F__law_leaf := ⟨_, fun_mk (st := s__law_leaf) l__law_leaf c__law_leaf k__law_leaf⟩, m__law_any := PySem.W.mg_of X G a__law_any, k__law_any := k__law_any, F__law_any := ⟨_, fun_mk (st := s__law_any) l__law_any c__law_any k__law_any⟩, m__law_kept := PySem.W.mg_of X G a__law_kept, k__law_kept := k__law_kept, F__law_kept := ⟨_, fun_mk (st := s__law_kept) l__law_kept c__law_kept k__law_kept⟩, m__law_made := PySem.W.mg_of X G a__law_made, k__law_made := k__law_made, F__law_made := ⟨_, fun_mk (st := s__law_made) l__law_made c__law_made k__law_made⟩, m__law_seed := PySem.W.mg_of X G a__law_seed, k__law_seed := k__law_seed, F__law_seed := ⟨_, fun_mk (st := s__law_seed) l__law_seed c__law_seed k__law_seed⟩, m__law_sorts := PySem.W.mg_of X G a__law_sorts, k__law_sorts := k__law_sorts, F__law_sorts := ⟨_, fun_mk (st := s__law_sorts) l__law_sorts c__law_sorts k__law_sorts⟩, m_law := PySem.W.mg_of X G a_law, k_law := k_law, F_law := ⟨_, fun_mk (st := s_law) l_law c_law k_law⟩, m_DimError := PySem.W.mg_of X G a_DimError, m_InvalidCommand := PySem.W.mg_of X G a_InvalidCommand, m_InvalidDay := PySem.W.mg_of X G a_InvalidDay, m_InvalidFrame := PySem.W.mg_of X G a_InvalidFrame, m_InvalidLooks := PySem.W.mg_of X G a_InvalidLooks, m_InvalidRule := PySem.W.mg_of X G a_InvalidRule, m_InvalidSlot := PySem.W.mg_of X G a_InvalidSlot, m_InvalidText := PySem.W.mg_of X G a_InvalidText, m_NoMeeting := PySem.W.mg_of X G a_NoMeeting, m_Refused := PySem.W.mg_of X G a_Refused, ox_InvalidDay := ⟨⟨_, _, _, _, _, _, _, _, _, _, _, _, _, _, _, xl_InvalidDay, by first | rfl | decide +kernel⟩, xsa_InvalidDay, xe_InvalidDay, tyc_InvalidDay, xk_InvalidDay⟩, no_InvalidDay := xno_InvalidDay, iC_InvalidDay := xi_InvalidDay, tI_InvalidDay := xt_InvalidDay, F_InvalidDay___init__ := ⟨_, fun_mk (st := s_InvalidDay___init__) l_InvalidDay___init__ c_InvalidDay___init__ k_InvalidDay___init__⟩, xf_InvalidDay := ⟨xga_InvalidDay, xgg_InvalidDay, xe_InvalidDay, xd_InvalidDay⟩, xc_InvalidDay := ⟨xga_InvalidDay, xgg_InvalidDay, xe_InvalidDay, xd_InvalidDay, xcl_InvalidDay, oc1, oc2, xm_InvalidDay⟩, te_InvalidDay := DL.exm_selfX xe_InvalidDay isc_InvalidDay tyc_InvalidDay xs_InvalidDay, ox_InvalidFrame := ⟨⟨_, _, _, _, _, _, _, _, _, _, _, _, _, _, _, xl_InvalidFrame, by first | rfl | decide +kernel⟩, xsa_InvalidFrame, xe_InvalidFrame, tyc_InvalidFrame, xk_InvalidFrame⟩, no_InvalidFrame := xno_InvalidFrame, iC_InvalidFrame := xi_InvalidFrame, tI_InvalidFrame := xt_InvalidFrame, F_InvalidFrame___init__ := ⟨_, fun_mk (st := s_InvalidFrame___init__) l_InvalidFrame___init__ c_InvalidFrame___init__ k_InvalidFrame___init__⟩, xf_InvalidFrame := ⟨xga_InvalidFrame, xgg_InvalidFrame, xe_InvalidFrame, xd_InvalidFrame⟩, xc_InvalidFrame := ⟨xga_InvalidFrame, xgg_InvalidFrame, xe_InvalidFrame, xd_InvalidFrame, xcl_InvalidFrame, oc1, oc2, xm_InvalidFrame⟩, te_InvalidFrame := DL.exm_selfX xe_InvalidFrame isc_InvalidFrame tyc_InvalidFrame xs_InvalidFrame, ox_InvalidLooks := ⟨⟨_, _, _, _, _, _, _, _, _, _, _, _, _, _, _, xl_InvalidLooks, by first | rfl | decide +kernel⟩, xsa_InvalidLooks, xe_InvalidLooks, tyc_InvalidLooks, xk_InvalidLooks⟩, no_InvalidLooks := xno_InvalidLooks, iC_InvalidLooks := xi_InvalidLooks, tI_InvalidLooks := xt_InvalidLooks, F_InvalidLooks___init__ := ⟨_, fun_mk (st := s_InvalidLooks___init__) l_InvalidLooks___init__ c_InvalidLooks___init__ k_InvalidLooks___init__⟩, xf_InvalidLooks := ⟨xga_InvalidLooks, xgg_InvalidLooks, xe_InvalidLooks, xd_InvalidLooks⟩, xc_InvalidLooks := ⟨xga_InvalidLooks, xgg_InvalidLooks, xe_InvalidLooks, xd_InvalidLooks, xcl_InvalidLooks, oc1, oc2, xm_InvalidLooks⟩, te_InvalidLooks := DL.exm_selfX xe_InvalidLooks isc_InvalidLooks tyc_InvalidLooks xs_InvalidLooks, ox_InvalidRule := ⟨⟨_, _, _, _, _, _, _, _, _, _, _, _, _, _, _, xl_InvalidRule, by first | rfl | decide +kernel⟩, xsa_InvalidRule, xe_InvalidRule, tyc_InvalidRule, xk_InvalidRule⟩, no_InvalidRule := xno_InvalidRule, iC_InvalidRule := xi_InvalidRule, tI_InvalidRule := xt_InvalidRule, F_InvalidRule___init__ := ⟨_, fun_mk (st := s_InvalidRule___init__) l_InvalidRule___init__ c_InvalidRule___init__ k_InvalidRule___init__⟩, xf_InvalidRule := ⟨xga_InvalidRule, xgg_InvalidRule, xe_InvalidRule, xd_InvalidRule⟩, xc_InvalidRule := ⟨xga_InvalidRule, xgg_InvalidRule, xe_InvalidRule, xd_InvalidRule, xcl_InvalidRule, oc1, oc2, xm_InvalidRule⟩, te_InvalidRule := DL.exm_selfX xe_InvalidRule isc_InvalidRule tyc_InvalidRule xs_InvalidRule, ox_InvalidText := ⟨⟨_, _, _, _, _, _, _, _, _, _, _, _, _, _, _, xl_InvalidText, by first | rfl | decide +kernel⟩, xsa_InvalidText, xe_InvalidText, tyc_InvalidText, xk_InvalidText⟩, no_InvalidText := xno_InvalidText, iC_InvalidText := xi_InvalidText, tI_InvalidText := xt_InvalidText, F_InvalidText___init__ := ⟨_, fun_mk (st := s_InvalidText___init__) l_InvalidText___init__ c_InvalidText___init__ k_InvalidText___init__⟩, xf_InvalidText := ⟨xga_InvalidText, xgg_InvalidText, xe_InvalidText, xd_InvalidText⟩, xc_InvalidText := ⟨xga_InvalidText, xgg_InvalidText, xe_InvalidText, xd_InvalidText, xcl_InvalidText, oc1, oc2, xm_InvalidText⟩, te_InvalidText := DL.exm_selfX xe_InvalidText isc_InvalidText tyc_InvalidText xs_InvalidText, ox_NoMeeting := ⟨⟨_, _, _, _, _, _, _, _, _, _, _, _, _, _, xl_NoMeeting⟩, xsa_NoMeeting, xe_NoMeeting, tyc_NoMeeting, xk_NoMeeting⟩, no_NoMeeting := xno_NoMeeting, iC_NoMeeting := xi_NoMeeting, tI_NoMeeting := xt_NoMeeting, F_NoMeeting___init__ := ⟨_, fun_mk (st := s_NoMeeting___init__) l_NoMeeting___init__ c_NoMeeting___init__ k_NoMeeting___init__⟩, xf_NoMeeting := ⟨xga_NoMeeting, xgg_NoMeeting, xe_NoMeeting, xd_NoMeeting⟩, xc_NoMeeting := ⟨xga_NoMeeting, xgg_NoMeeting, xe_NoMeeting, xd_NoMeeting, xcl_NoMeeting, oc1, oc2, xm_NoMeeting⟩, te_NoMeeting := DL.exm_selfX xe_NoMeeting isc_NoMeeting tyc_NoMeeting xs_NoMeeting, ox_Refused := ⟨⟨_, _, _, _, _, _, _, _, _, _, _, _, _, _, _, xl_Refused, by first | rfl | decide +kernel⟩, xsa_Refused, xe_Refused, tyc_Refused, xk_Refused⟩, no_Refused := xno_Refused, iC_Refused := xi_Refused, tI_Refused := xt_Refused, F_Refused___init__ := ⟨_, fun_mk (st := s_Refused___init__) l_Refused___init__ c_Refused___init__ k_Refused___init__⟩, xf_Refused := ⟨xga_Refused, xgg_Refused, xe_Refused, xd_Refused⟩, xc_Refused := ⟨xga_Refused, xgg_Refused, xe_Refused, xd_Refused, xcl_Refused, oc1, oc2, xm_Refused⟩, te_Refused := DL.exm_selfX xe_Refused isc_Refused tyc_Refused xs_Refused, xc_InvalidSlot := ⟨xga_InvalidSlot, xgg_InvalidSlot, xe_InvalidSlot, xd_InvalidSlot, xcl_InvalidSlot, oc1, oc2, xm_InvalidSlot⟩, ei_InvalidSlot := ei_InvalidSlot, kp_InvalidSlot := xk_InvalidSlot, xc_InvalidCommand := ⟨xga_InvalidCommand, xgg_InvalidCommand, xe_InvalidCommand, xd_InvalidCommand, xcl_InvalidCommand, oc1, oc2, xm_InvalidCommand⟩, ei_InvalidCommand := ei_InvalidCommand, kp_InvalidCommand := xk_InvalidCommand, kx_InvalidCommand_DimError := DL.kit_ref isc_DimError tyc_DimError xk_InvalidCommand_DimError xs_InvalidCommand, kx_InvalidCommand_InvalidCommand := DL.kit_ref isc_InvalidCommand tyc_InvalidCommand xk_InvalidCommand_InvalidCommand xs_InvalidCommand, kx_InvalidCommand_InvalidDay := DL.kit_ref isc_InvalidDay tyc_InvalidDay xk_InvalidCommand_InvalidDay xs_InvalidCommand, kx_InvalidCommand_InvalidFrame := DL.kit_ref isc_InvalidFrame tyc_InvalidFrame xk_InvalidCommand_InvalidFrame xs_InvalidCommand, kx_InvalidCommand_InvalidLooks := DL.kit_ref isc_InvalidLooks tyc_InvalidLooks xk_InvalidCommand_InvalidLooks xs_InvalidCommand, kx_InvalidCommand_InvalidRule := DL.kit_ref isc_InvalidRule tyc_InvalidRule xk_InvalidCommand_InvalidRule xs_InvalidCommand, kx_InvalidCommand_InvalidSlot := DL.kit_ref isc_InvalidSlot tyc_InvalidSlot xk_InvalidCommand_InvalidSlot xs_InvalidCommand, kx_InvalidCommand_InvalidText := DL.kit_ref isc_InvalidText tyc_InvalidText xk_InvalidCommand_InvalidText xs_InvalidCommand, kx_InvalidCommand_NoMeeting := DL.kit_ref isc_NoMeeting tyc_NoMeeting xk_InvalidCommand_NoMeeting xs_InvalidCommand, kx_InvalidCommand_Refused := DL.kit_ref isc_Refused tyc_Refused xk_InvalidCommand_Refused xs_InvalidCommand, kx_InvalidDay_DimError := DL.kit_ref isc_DimError tyc_DimError xk_InvalidDay_DimError xs_InvalidDay, kx_InvalidDay_InvalidCommand := DL.kit_ref isc_InvalidCommand tyc_InvalidCommand xk_InvalidDay_InvalidCommand xs_InvalidDay, kx_InvalidDay_InvalidDay := DL.kit_ref isc_InvalidDay tyc_InvalidDay xk_InvalidDay_InvalidDay xs_InvalidDay, kx_InvalidDay_InvalidFrame := DL.kit_ref isc_InvalidFrame tyc_InvalidFrame xk_InvalidDay_InvalidFrame xs_InvalidDay, kx_InvalidDay_InvalidLooks := DL.kit_ref isc_InvalidLooks tyc_InvalidLooks xk_InvalidDay_InvalidLooks xs_InvalidDay, kx_InvalidDay_InvalidRule := DL.kit_ref isc_InvalidRule tyc_InvalidRule xk_InvalidDay_InvalidRule xs_InvalidDay, kx_InvalidDay_InvalidSlot := DL.kit_ref isc_InvalidSlot tyc_InvalidSlot xk_InvalidDay_InvalidSlot xs_InvalidDay, kx_InvalidDay_InvalidText := DL.kit_ref isc_InvalidText tyc_InvalidText xk_InvalidDay_InvalidText xs_InvalidDay, kx_InvalidDay_NoMeeting := DL.kit_ref isc_NoMeeting tyc_NoMeeting xk_InvalidDay_NoMeeting xs_InvalidDay, kx_InvalidDay_Refused := DL.kit_ref isc_Refused tyc_Refused xk_InvalidDay_Refused xs_InvalidDay, kx_InvalidFrame_DimError := DL.kit_ref isc_DimError tyc_DimError xk_InvalidFrame_DimError xs_InvalidFrame, kx_InvalidFrame_InvalidCommand := DL.kit_ref isc_InvalidCommand tyc_InvalidCommand xk_InvalidFrame_InvalidCommand xs_InvalidFrame, kx_InvalidFrame_InvalidDay := DL.kit_ref isc_InvalidDay tyc_InvalidDay xk_InvalidFrame_InvalidDay xs_InvalidFrame, kx_InvalidFrame_InvalidFrame := DL.kit_ref isc_InvalidFrame tyc_InvalidFrame xk_InvalidFrame_InvalidFrame xs_InvalidFrame, kx_InvalidFrame_InvalidLooks := DL.kit_ref isc_InvalidLooks tyc_InvalidLooks xk_InvalidFrame_InvalidLooks xs_InvalidFrame, kx_InvalidFrame_InvalidRule := DL.kit_ref isc_InvalidRule tyc_InvalidRule xk_InvalidFrame_InvalidRule xs_InvalidFrame, kx_InvalidFrame_InvalidSlot := DL.kit_ref isc_InvalidSlot tyc_InvalidSlot xk_InvalidFrame_InvalidSlot xs_InvalidFrame, kx_InvalidFrame_InvalidText := DL.kit_ref isc_InvalidText tyc_InvalidText xk_InvalidFrame_InvalidText xs_InvalidFrame, kx_InvalidFrame_NoMeeting := DL.kit_ref isc_NoMeeting tyc_NoMeeting xk_InvalidFrame_NoMeeting xs_InvalidFrame, kx_InvalidFrame_Refused := DL.kit_ref isc_Refused tyc_Refused xk_InvalidFrame_Refused xs_InvalidFrame, kx_InvalidLooks_DimError := DL.kit_ref isc_DimError tyc_DimError xk_InvalidLooks_DimError xs_InvalidLooks, kx_InvalidLooks_InvalidCommand := DL.kit_ref isc_InvalidCommand tyc_InvalidCommand xk_InvalidLooks_InvalidCommand xs_InvalidLooks, kx_InvalidLooks_InvalidDay := DL.kit_ref isc_InvalidDay tyc_InvalidDay xk_InvalidLooks_InvalidDay xs_InvalidLooks, kx_InvalidLooks_InvalidFrame := DL.kit_ref isc_InvalidFrame tyc_InvalidFrame xk_InvalidLooks_InvalidFrame xs_InvalidLooks, kx_InvalidLooks_InvalidLooks := DL.kit_ref isc_InvalidLooks tyc_InvalidLooks xk_InvalidLooks_InvalidLooks xs_InvalidLooks, kx_InvalidLooks_InvalidRule := DL.kit_ref isc_InvalidRule tyc_InvalidRule xk_InvalidLooks_InvalidRule xs_InvalidLooks, kx_InvalidLooks_InvalidSlot := DL.kit_ref isc_InvalidSlot tyc_InvalidSlot xk_InvalidLooks_InvalidSlot xs_InvalidLooks, kx_InvalidLooks_InvalidText := DL.kit_ref isc_InvalidText tyc_InvalidText xk_InvalidLooks_InvalidText xs_InvalidLooks, kx_InvalidLooks_NoMeeting := DL.kit_ref isc_NoMeeting tyc_NoMeeting xk_InvalidLooks_NoMeeting xs_InvalidLooks, kx_InvalidLooks_Refused := DL.kit_ref isc_Refused tyc_Refused xk_InvalidLooks_Refused xs_InvalidLooks, kx_InvalidRule_DimError := DL.kit_ref isc_DimError tyc_DimError xk_InvalidRule_DimError xs_InvalidRule, kx_InvalidRule_InvalidCommand := DL.kit_ref isc_InvalidCommand tyc_InvalidCommand xk_InvalidRule_InvalidCommand xs_InvalidRule, kx_InvalidRule_InvalidDay := DL.kit_ref isc_InvalidDay tyc_InvalidDay xk_InvalidRule_InvalidDay xs_InvalidRule, kx_InvalidRule_InvalidFrame := DL.kit_ref isc_InvalidFrame tyc_InvalidFrame xk_InvalidRule_InvalidFrame xs_InvalidRule, kx_InvalidRule_InvalidLooks := DL.kit_ref isc_InvalidLooks tyc_InvalidLooks xk_InvalidRule_InvalidLooks xs_InvalidRule, kx_InvalidRule_InvalidRule := DL.kit_ref isc_InvalidRule tyc_InvalidRule xk_InvalidRule_InvalidRule xs_InvalidRule, kx_InvalidRule_InvalidSlot := DL.kit_ref isc_InvalidSlot tyc_InvalidSlot xk_InvalidRule_InvalidSlot xs_InvalidRule, kx_InvalidRule_InvalidText := DL.kit_ref isc_InvalidText tyc_InvalidText xk_InvalidRule_InvalidText xs_InvalidRule, kx_InvalidRule_NoMeeting := DL.kit_ref isc_NoMeeting tyc_NoMeeting xk_InvalidRule_NoMeeting xs_InvalidRule, kx_InvalidRule_Refused := DL.kit_ref isc_Refused tyc_Refused xk_InvalidRule_Refused xs_InvalidRule, kx_InvalidSlot_DimError := DL.kit_ref isc_DimError tyc_DimError xk_InvalidSlot_DimError xs_InvalidSlot, kx_InvalidSlot_InvalidCommand := DL.kit_ref isc_InvalidCommand tyc_InvalidCommand xk_InvalidSlot_InvalidCommand xs_InvalidSlot, kx_InvalidSlot_InvalidDay := DL.kit_ref isc_InvalidDay tyc_InvalidDay xk_InvalidSlot_InvalidDay xs_InvalidSlot, kx_InvalidSlot_InvalidFrame := DL.kit_ref isc_InvalidFrame tyc_InvalidFrame xk_InvalidSlot_InvalidFrame xs_InvalidSlot, kx_InvalidSlot_InvalidLooks := DL.kit_ref isc_InvalidLooks tyc_InvalidLooks xk_InvalidSlot_InvalidLooks xs_InvalidSlot, kx_InvalidSlot_InvalidRule := DL.kit_ref isc_InvalidRule tyc_InvalidRule xk_InvalidSlot_InvalidRule xs_InvalidSlot, kx_InvalidSlot_InvalidSlot := DL.kit_ref isc_InvalidSlot tyc_InvalidSlot xk_InvalidSlot_InvalidSlot xs_InvalidSlot, kx_InvalidSlot_InvalidText := DL.kit_ref isc_InvalidText tyc_InvalidText xk_InvalidSlot_InvalidText xs_InvalidSlot, kx_InvalidSlot_NoMeeting := DL.kit_ref isc_NoMeeting tyc_NoMeeting xk_InvalidSlot_NoMeeting xs_InvalidSlot, kx_InvalidSlot_Refused := DL.kit_ref isc_Refused tyc_Refused xk_InvalidSlot_Refused xs_InvalidSlot, kx_InvalidText_DimError := DL.kit_ref isc_DimError tyc_DimError xk_InvalidText_DimError xs_InvalidText, kx_InvalidText_InvalidCommand := DL.kit_ref isc_InvalidCommand tyc_InvalidCommand xk_InvalidText_InvalidCommand xs_InvalidText, kx_InvalidText_InvalidDay := DL.kit_ref isc_InvalidDay tyc_InvalidDay xk_InvalidText_InvalidDay xs_InvalidText, kx_InvalidText_InvalidFrame := DL.kit_ref isc_InvalidFrame tyc_InvalidFrame xk_InvalidText_InvalidFrame xs_InvalidText, kx_InvalidText_InvalidLooks := DL.kit_ref isc_InvalidLooks tyc_InvalidLooks xk_InvalidText_InvalidLooks xs_InvalidText, kx_InvalidText_InvalidRule := DL.kit_ref isc_InvalidRule tyc_InvalidRule xk_InvalidText_InvalidRule xs_InvalidText, kx_InvalidText_InvalidSlot := DL.kit_ref isc_InvalidSlot tyc_InvalidSlot xk_InvalidText_InvalidSlot xs_InvalidText, kx_InvalidText_InvalidText := DL.kit_ref isc_InvalidText tyc_InvalidText xk_InvalidText_InvalidText xs_InvalidText, kx_InvalidText_NoMeeting := DL.kit_ref isc_NoMeeting tyc_NoMeeting xk_InvalidText_NoMeeting xs_InvalidText, kx_InvalidText_Refused := DL.kit_ref isc_Refused tyc_Refused xk_InvalidText_Refused xs_InvalidText, kx_NoMeeting_DimError := DL.kit_ref isc_DimError tyc_DimError xk_NoMeeting_DimError xs_NoMeeting, kx_NoMeeting_InvalidCommand := DL.kit_ref isc_InvalidCommand tyc_InvalidCommand xk_NoMeeting_InvalidCommand xs_NoMeeting, kx_NoMeeting_InvalidDay := DL.kit_ref isc_InvalidDay tyc_InvalidDay xk_NoMeeting_InvalidDay xs_NoMeeting, kx_NoMeeting_InvalidFrame := DL.kit_ref isc_InvalidFrame tyc_InvalidFrame xk_NoMeeting_InvalidFrame xs_NoMeeting, kx_NoMeeting_InvalidLooks := DL.kit_ref isc_InvalidLooks tyc_InvalidLooks xk_NoMeeting_InvalidLooks xs_NoMeeting, kx_NoMeeting_InvalidRule := DL.kit_ref isc_InvalidRule tyc_InvalidRule xk_NoMeeting_InvalidRule xs_NoMeeting, kx_NoMeeting_InvalidSlot := DL.kit_ref isc_InvalidSlot tyc_InvalidSlot xk_NoMeeting_InvalidSlot xs_NoMeeting, kx_NoMeeting_InvalidText := DL.kit_ref isc_InvalidText tyc_InvalidText xk_NoMeeting_InvalidText xs_NoMeeting, kx_NoMeeting_NoMeeting := DL.kit_ref isc_NoMeeting tyc_NoMeeting xk_NoMeeting_NoMeeting xs_NoMeeting, kx_NoMeeting_Refused := DL.kit_ref isc_Refused tyc_Refused xk_NoMeeting_Refused xs_NoMeeting, kx_Refused_DimError := DL.kit_ref isc_DimError tyc_DimError xk_Refused_DimError xs_Refused, kx_Refused_InvalidCommand := DL.kit_ref isc_InvalidCommand tyc_InvalidCommand xk_Refused_InvalidCommand xs_Refused, kx_Refused_InvalidDay := DL.kit_ref isc_InvalidDay tyc_InvalidDay xk_Refused_InvalidDay xs_Refused, kx_Refused_InvalidFrame := DL.kit_ref isc_InvalidFrame tyc_InvalidFrame xk_Refused_InvalidFrame xs_Refused, kx_Refused_InvalidLooks := DL.kit_ref isc_InvalidLooks tyc_InvalidLooks xk_Refused_InvalidLooks xs_Refused, kx_Refused_InvalidRule := DL.kit_ref isc_InvalidRule tyc_InvalidRule xk_Refused_InvalidRule xs_Refused, kx_Refused_InvalidSlot := DL.kit_ref isc_InvalidSlot tyc_InvalidSlot xk_Refused_InvalidSlot xs_Refused, kx_Refused_InvalidText := DL.kit_ref isc_InvalidText tyc_InvalidText xk_Refused_InvalidText xs_Refused, kx_Refused_NoMeeting := DL.kit_ref isc_NoMeeting tyc_NoMeeting xk_Refused_NoMeeting xs_Refused, kx_Refused_Refused := DL.kit_ref isc_Refused tyc_Refused xk_Refused_Refused xs_Refused, kx_InvalidCommand_IndexError := DL.kit_ty xk_InvalidCommand_IndexError xs_InvalidCommand, kx_InvalidCommand_ValueError := DL.kit_ty xk_InvalidCommand_ValueError xs_InvalidCommand, kx_InvalidDay_IndexError := DL.kit_ty xk_InvalidDay_IndexError xs_InvalidDay, kx_InvalidDay_ValueError := DL.kit_ty xk_InvalidDay_ValueError xs_InvalidDay, kx_InvalidFrame_IndexError := DL.kit_ty xk_InvalidFrame_IndexError xs_InvalidFrame, kx_InvalidFrame_ValueError := DL.kit_ty xk_InvalidFrame_ValueError xs_InvalidFrame, kx_InvalidLooks_IndexError := DL.kit_ty xk_InvalidLooks_IndexError xs_InvalidLooks, kx_InvalidLooks_ValueError := DL.kit_ty xk_InvalidLooks_ValueError xs_InvalidLooks, kx_InvalidRule_IndexError := DL.kit_ty xk_InvalidRule_IndexError xs_InvalidRule, kx_InvalidRule_ValueError := DL.kit_ty xk_InvalidRule_ValueError xs_InvalidRule, kx_InvalidSlot_IndexError := DL.kit_ty xk_InvalidSlot_IndexError xs_InvalidSlot, kx_InvalidSlot_ValueError := DL.kit_ty xk_InvalidSlot_ValueError xs_InvalidSlot, kx_InvalidText_IndexError := DL.kit_ty xk_InvalidText_IndexError xs_InvalidText, kx_InvalidText_ValueError := DL.kit_ty xk_InvalidText_ValueError xs_InvalidText, kx_NoMeeting_IndexError := DL.kit_ty xk_NoMeeting_IndexError xs_NoMeeting, kx_NoMeeting_ValueError := DL.kit_ty xk_NoMeeting_ValueError xs_NoMeeting, kx_Refused_IndexError := DL.kit_ty xk_Refused_IndexError xs_Refused, kx_Refused_ValueError := DL.kit_ty xk_Refused_ValueError xs_Refused, b_IndexError := PySem.W.mg_none_of X G b_IndexError, b_ValueError := PySem.W.mg_none_of X G b_ValueError, b_abs := PySem.W.mg_none_of X G b_abs, b_enumerate := PySem.W.mg_none_of X G b_enumerate, b_int := PySem.W.mg_none_of X G b_int, b_isinstance := PySem.W.mg_none_of X G b_isinstance, b_len := PySem.W.mg_none_of X G b_len, b_max := PySem.W.mg_none_of X G b_max, b_min := PySem.W.mg_none_of X G b_min, b_range := PySem.W.mg_none_of X G b_range, b_repr := PySem.W.mg_none_of X G b_repr, b_tuple := PySem.W.mg_none_of X G b_tuple }
  exact ⟨PySem.W.fnOf "law" "law" (defArgs s_law) (defBody s_law) (defScope s_law) .none kV_law do_law pm_law an_law cd_law ct_law, fun s v => .of_eq rfl, fun base _ _ => ok_law T (fun_mk l_law c_law k_law)⟩
theorem walk {l : PySem.W.OpenLaw} {q : Program} {loose : List Str} {XP : (Str → Option Value) → Heap → Prop} {YP : World → Heap → Prop} {d : DefRec} {K : Params → PySem.W.Frag} (hn : l.most = some 63) (hdf : d.params.defaults = [])
    (hY : ∀ (w : World) (h : Heap), YP w h → (K w.params).In h)
    (F : ∀ (w : World) (mg : Str → Option Value) (fa : Addr) (h : Heap), (K w.params).In h → h.Ns mainGlobals mg → mg d.name = some (.ref fa) →
      ∃ fd : FuncData, (∀ (s : Shared) (u : Value), BindsTo s fd ⟨[u], []⟩ [("_law_script", u)]) ∧ ∀ base : Heap, (K w.params).In base → base.Ns mainGlobals mg → FnG l.prog w (K w.params) mg base 14 fa fd ["_law_script"] (spLaw (K w.params))) :
    PySem.W.WalkO q loose XP YP l.row.toRowW d [] (fun f vs => PySem.call f vs) :=
  walk_ofG (n := 63) (k := 14) (x := "_law_script") (sp := spLaw) hn (by decide) hdf ⟨rfl, by decide, by decide⟩ hY F (fun _ _ a ns hl _ hS => ⟨a, ns, rfl, hS, hl, fun _ => rfl⟩)
end DD
open PySem PySem.W PyProof.Rows
set_option maxRecDepth 100000 in
set_option maxHeartbeats 0 in
theorem PySem.Challenge.cw_dimdays_k01_errors_and_what_they_keep_holds : PySem.Challenge.rw_dimdays_k01_errors_and_what_they_keep.Holds := by
  w_on; o_law; k_headLK; (case hw => w_witness2)
  k_fill
  refine DD.walk (l := PySem.Challenge.rw_dimdays_k01_errors_and_what_they_keep) rfl rfl (fun w h Y => PySem.W.kIn_of Y) ?F
  case F =>
    intro w mg fa h KX G hmg
    refine' DD.all_mk KX G hmg ?a__law_choose ?l__law_choose ?c__law_choose ?k__law_choose ?a__law_one_of ?l__law_one_of ?c__law_one_of ?k__law_one_of ?a__law_leaf ?l__law_leaf ?c__law_leaf ?k__law_leaf ?a__law_any ?l__law_any ?c__law_any ?k__law_any ?a__law_kept ?l__law_kept ?c__law_kept ?k__law_kept ?a__law_made ?l__law_made ?c__law_made ?k__law_made ?a__law_seed ?l__law_seed ?c__law_seed ?k__law_seed ?a__law_sorts ?l__law_sorts ?c__law_sorts ?k__law_sorts ?a_law ?l_law ?c_law ?k_law ?oc1 ?oc2 ?a_DimError ?isc_DimError ?tyc_DimError ?a_InvalidCommand ?isc_InvalidCommand ?tyc_InvalidCommand ?a_InvalidDay ?isc_InvalidDay ?tyc_InvalidDay ?a_InvalidFrame ?isc_InvalidFrame ?tyc_InvalidFrame ?a_InvalidLooks ?isc_InvalidLooks ?tyc_InvalidLooks ?a_InvalidRule ?isc_InvalidRule ?tyc_InvalidRule ?a_InvalidSlot ?isc_InvalidSlot ?tyc_InvalidSlot ?a_InvalidText ?isc_InvalidText ?tyc_InvalidText ?a_NoMeeting ?isc_NoMeeting ?tyc_NoMeeting ?a_Refused ?isc_Refused ?tyc_Refused ?xl_InvalidDay ?xsa_InvalidDay ?xga_InvalidDay ?xgg_InvalidDay ?xno_InvalidDay ?xi_InvalidDay ?xt_InvalidDay ?l_InvalidDay___init__ ?c_InvalidDay___init__ ?k_InvalidDay___init__ ?xk_InvalidDay ?xe_InvalidDay ?xd_InvalidDay ?xs_InvalidDay ?xcl_InvalidDay ?xm_InvalidDay ?xl_InvalidFrame ?xsa_InvalidFrame ?xga_InvalidFrame ?xgg_InvalidFrame ?xno_InvalidFrame ?xi_InvalidFrame ?xt_InvalidFrame ?l_InvalidFrame___init__ ?c_InvalidFrame___init__ ?k_InvalidFrame___init__ ?xk_InvalidFrame ?xe_InvalidFrame ?xd_InvalidFrame ?xs_InvalidFrame ?xcl_InvalidFrame ?xm_InvalidFrame ?xl_InvalidLooks ?xsa_InvalidLooks ?xga_InvalidLooks ?xgg_InvalidLooks ?xno_InvalidLooks ?xi_InvalidLooks ?xt_InvalidLooks ?l_InvalidLooks___init__ ?c_InvalidLooks___init__ ?k_InvalidLooks___init__ ?xk_InvalidLooks ?xe_InvalidLooks ?xd_InvalidLooks ?xs_InvalidLooks ?xcl_InvalidLooks ?xm_InvalidLooks ?xl_InvalidRule ?xsa_InvalidRule ?xga_InvalidRule ?xgg_InvalidRule ?xno_InvalidRule ?xi_InvalidRule ?xt_InvalidRule ?l_InvalidRule___init__ ?c_InvalidRule___init__ ?k_InvalidRule___init__ ?xk_InvalidRule ?xe_InvalidRule ?xd_InvalidRule ?xs_InvalidRule ?xcl_InvalidRule ?xm_InvalidRule ?xl_InvalidText ?xsa_InvalidText ?xga_InvalidText ?xgg_InvalidText ?xno_InvalidText ?xi_InvalidText ?xt_InvalidText ?l_InvalidText___init__ ?c_InvalidText___init__ ?k_InvalidText___init__ ?xk_InvalidText ?xe_InvalidText ?xd_InvalidText ?xs_InvalidText ?xcl_InvalidText ?xm_InvalidText ?xl_NoMeeting ?xsa_NoMeeting ?xga_NoMeeting ?xgg_NoMeeting ?xno_NoMeeting ?xi_NoMeeting ?xt_NoMeeting ?l_NoMeeting___init__ ?c_NoMeeting___init__ ?k_NoMeeting___init__ ?xk_NoMeeting ?xe_NoMeeting ?xd_NoMeeting ?xs_NoMeeting ?xcl_NoMeeting ?xm_NoMeeting ?xl_Refused ?xsa_Refused ?xga_Refused ?xgg_Refused ?xno_Refused ?xi_Refused ?xt_Refused ?l_Refused___init__ ?c_Refused___init__ ?k_Refused___init__ ?xk_Refused ?xe_Refused ?xd_Refused ?xs_Refused ?xcl_Refused ?xm_Refused ?xga_InvalidSlot ?xgg_InvalidSlot ?xk_InvalidSlot ?xe_InvalidSlot ?xd_InvalidSlot ?xs_InvalidSlot ?xcl_InvalidSlot ?xm_InvalidSlot ?ei_InvalidSlot ?xga_InvalidCommand ?xgg_InvalidCommand ?xk_InvalidCommand ?xe_InvalidCommand ?xd_InvalidCommand ?xs_InvalidCommand ?xcl_InvalidCommand ?xm_InvalidCommand ?ei_InvalidCommand ?xk_InvalidCommand_DimError ?xk_InvalidCommand_InvalidCommand ?xk_InvalidCommand_InvalidDay ?xk_InvalidCommand_InvalidFrame ?xk_InvalidCommand_InvalidLooks ?xk_InvalidCommand_InvalidRule ?xk_InvalidCommand_InvalidSlot ?xk_InvalidCommand_InvalidText ?xk_InvalidCommand_NoMeeting ?xk_InvalidCommand_Refused ?xk_InvalidDay_DimError ?xk_InvalidDay_InvalidCommand ?xk_InvalidDay_InvalidDay ?xk_InvalidDay_InvalidFrame ?xk_InvalidDay_InvalidLooks ?xk_InvalidDay_InvalidRule ?xk_InvalidDay_InvalidSlot ?xk_InvalidDay_InvalidText ?xk_InvalidDay_NoMeeting ?xk_InvalidDay_Refused ?xk_InvalidFrame_DimError ?xk_InvalidFrame_InvalidCommand ?xk_InvalidFrame_InvalidDay ?xk_InvalidFrame_InvalidFrame ?xk_InvalidFrame_InvalidLooks ?xk_InvalidFrame_InvalidRule ?xk_InvalidFrame_InvalidSlot ?xk_InvalidFrame_InvalidText ?xk_InvalidFrame_NoMeeting ?xk_InvalidFrame_Refused ?xk_InvalidLooks_DimError ?xk_InvalidLooks_InvalidCommand ?xk_InvalidLooks_InvalidDay ?xk_InvalidLooks_InvalidFrame ?xk_InvalidLooks_InvalidLooks ?xk_InvalidLooks_InvalidRule ?xk_InvalidLooks_InvalidSlot ?xk_InvalidLooks_InvalidText ?xk_InvalidLooks_NoMeeting ?xk_InvalidLooks_Refused ?xk_InvalidRule_DimError ?xk_InvalidRule_InvalidCommand ?xk_InvalidRule_InvalidDay ?xk_InvalidRule_InvalidFrame ?xk_InvalidRule_InvalidLooks ?xk_InvalidRule_InvalidRule ?xk_InvalidRule_InvalidSlot ?xk_InvalidRule_InvalidText ?xk_InvalidRule_NoMeeting ?xk_InvalidRule_Refused ?xk_InvalidSlot_DimError ?xk_InvalidSlot_InvalidCommand ?xk_InvalidSlot_InvalidDay ?xk_InvalidSlot_InvalidFrame ?xk_InvalidSlot_InvalidLooks ?xk_InvalidSlot_InvalidRule ?xk_InvalidSlot_InvalidSlot ?xk_InvalidSlot_InvalidText ?xk_InvalidSlot_NoMeeting ?xk_InvalidSlot_Refused ?xk_InvalidText_DimError ?xk_InvalidText_InvalidCommand ?xk_InvalidText_InvalidDay ?xk_InvalidText_InvalidFrame ?xk_InvalidText_InvalidLooks ?xk_InvalidText_InvalidRule ?xk_InvalidText_InvalidSlot ?xk_InvalidText_InvalidText ?xk_InvalidText_NoMeeting ?xk_InvalidText_Refused ?xk_NoMeeting_DimError ?xk_NoMeeting_InvalidCommand ?xk_NoMeeting_InvalidDay ?xk_NoMeeting_InvalidFrame ?xk_NoMeeting_InvalidLooks ?xk_NoMeeting_InvalidRule ?xk_NoMeeting_InvalidSlot ?xk_NoMeeting_InvalidText ?xk_NoMeeting_NoMeeting ?xk_NoMeeting_Refused ?xk_Refused_DimError ?xk_Refused_InvalidCommand ?xk_Refused_InvalidDay ?xk_Refused_InvalidFrame ?xk_Refused_InvalidLooks ?xk_Refused_InvalidRule ?xk_Refused_InvalidSlot ?xk_Refused_InvalidText ?xk_Refused_NoMeeting ?xk_Refused_Refused ?xk_InvalidCommand_IndexError ?xk_InvalidCommand_ValueError ?xk_InvalidDay_IndexError ?xk_InvalidDay_ValueError ?xk_InvalidFrame_IndexError ?xk_InvalidFrame_ValueError ?xk_InvalidLooks_IndexError ?xk_InvalidLooks_ValueError ?xk_InvalidRule_IndexError ?xk_InvalidRule_ValueError ?xk_InvalidSlot_IndexError ?xk_InvalidSlot_ValueError ?xk_InvalidText_IndexError ?xk_InvalidText_ValueError ?xk_NoMeeting_IndexError ?xk_NoMeeting_ValueError ?xk_Refused_IndexError ?xk_Refused_ValueError ?b_IndexError ?b_ValueError ?b_abs ?b_enumerate ?b_int ?b_isinstance ?b_len ?b_max ?b_min ?b_range ?b_repr ?b_tuple
    (case a__law_choose => k_is)
    (case l__law_choose => k_is)
    (case c__law_choose => k_is)
    (case k__law_choose => k_is)
    (case a__law_one_of => k_is)
    (case l__law_one_of => k_is)
    (case c__law_one_of => k_is)
    (case k__law_one_of => k_is)
    (case a__law_leaf => k_is)
    (case l__law_leaf => k_is)
    (case c__law_leaf => k_is)
    (case k__law_leaf => k_is)
    (case a__law_any => k_is)
    (case l__law_any => k_is)
    (case c__law_any => k_is)
    (case k__law_any => k_is)
    (case a__law_kept => k_is)
    (case l__law_kept => k_is)
    (case c__law_kept => k_is)
    (case k__law_kept => k_is)
    (case a__law_made => k_is)
    (case l__law_made => k_is)
    (case c__law_made => k_is)
    (case k__law_made => k_is)
    (case a__law_seed => k_is)
    (case l__law_seed => k_is)
    (case c__law_seed => k_is)
    (case k__law_seed => k_is)
    (case a__law_sorts => k_is)
    (case l__law_sorts => k_is)
    (case c__law_sorts => k_is)
    (case k__law_sorts => k_is)
    (case a_law => k_is)
    (case l_law => k_is)
    (case c_law => k_is)
    (case k_law => k_is)
    (case oc1 => k_is)
    (case oc2 => k_is)
    (case a_DimError => k_is)
    (case isc_DimError => k_is)
    (case tyc_DimError => k_is)
    (case a_InvalidCommand => k_is)
    (case isc_InvalidCommand => k_is)
    (case tyc_InvalidCommand => k_is)
    (case a_InvalidDay => k_is)
    (case isc_InvalidDay => k_is)
    (case tyc_InvalidDay => k_is)
    (case a_InvalidFrame => k_is)
    (case isc_InvalidFrame => k_is)
    (case tyc_InvalidFrame => k_is)
    (case a_InvalidLooks => k_is)
    (case isc_InvalidLooks => k_is)
    (case tyc_InvalidLooks => k_is)
    (case a_InvalidRule => k_is)
    (case isc_InvalidRule => k_is)
    (case tyc_InvalidRule => k_is)
    (case a_InvalidSlot => k_is)
    (case isc_InvalidSlot => k_is)
    (case tyc_InvalidSlot => k_is)
    (case a_InvalidText => k_is)
    (case isc_InvalidText => k_is)
    (case tyc_InvalidText => k_is)
    (case a_NoMeeting => k_is)
    (case isc_NoMeeting => k_is)
    (case tyc_NoMeeting => k_is)
    (case a_Refused => k_is)
    (case isc_Refused => k_is)
    (case tyc_Refused => k_is)
    (case xl_InvalidDay => k_is)
    (case xsa_InvalidDay => k_is)
    (case xga_InvalidDay => k_is)
    (case xgg_InvalidDay => k_is)
    (case xno_InvalidDay => k_is)
    (case xi_InvalidDay => k_is)
    (case xt_InvalidDay => k_is)
    (case l_InvalidDay___init__ => k_is)
    (case c_InvalidDay___init__ => k_is)
    (case k_InvalidDay___init__ => k_is)
    (case xk_InvalidDay => k_is)
    (case xe_InvalidDay => k_is)
    (case xd_InvalidDay => k_is)
    (case xs_InvalidDay => k_is)
    (case xcl_InvalidDay => k_is)
    (case xm_InvalidDay => k_is)
    (case xl_InvalidFrame => k_is)
    (case xsa_InvalidFrame => k_is)
    (case xga_InvalidFrame => k_is)
    (case xgg_InvalidFrame => k_is)
    (case xno_InvalidFrame => k_is)
    (case xi_InvalidFrame => k_is)
    (case xt_InvalidFrame => k_is)
    (case l_InvalidFrame___init__ => k_is)
    (case c_InvalidFrame___init__ => k_is)
    (case k_InvalidFrame___init__ => k_is)
    (case xk_InvalidFrame => k_is)
    (case xe_InvalidFrame => k_is)
    (case xd_InvalidFrame => k_is)
    (case xs_InvalidFrame => k_is)
    (case xcl_InvalidFrame => k_is)
    (case xm_InvalidFrame => k_is)
    (case xl_InvalidLooks => k_is)
    (case xsa_InvalidLooks => k_is)
    (case xga_InvalidLooks => k_is)
    (case xgg_InvalidLooks => k_is)
    (case xno_InvalidLooks => k_is)
    (case xi_InvalidLooks => k_is)
    (case xt_InvalidLooks => k_is)
    (case l_InvalidLooks___init__ => k_is)
    (case c_InvalidLooks___init__ => k_is)
    (case k_InvalidLooks___init__ => k_is)
    (case xk_InvalidLooks => k_is)
    (case xe_InvalidLooks => k_is)
    (case xd_InvalidLooks => k_is)
    (case xs_InvalidLooks => k_is)
    (case xcl_InvalidLooks => k_is)
    (case xm_InvalidLooks => k_is)
    (case xl_InvalidRule => k_is)
    (case xsa_InvalidRule => k_is)
    (case xga_InvalidRule => k_is)
    (case xgg_InvalidRule => k_is)
    (case xno_InvalidRule => k_is)
    (case xi_InvalidRule => k_is)
    (case xt_InvalidRule => k_is)
    (case l_InvalidRule___init__ => k_is)
    (case c_InvalidRule___init__ => k_is)
    (case k_InvalidRule___init__ => k_is)
    (case xk_InvalidRule => k_is)
    (case xe_InvalidRule => k_is)
    (case xd_InvalidRule => k_is)
    (case xs_InvalidRule => k_is)
    (case xcl_InvalidRule => k_is)
    (case xm_InvalidRule => k_is)
    (case xl_InvalidText => k_is)
    (case xsa_InvalidText => k_is)
    (case xga_InvalidText => k_is)
    (case xgg_InvalidText => k_is)
    (case xno_InvalidText => k_is)
    (case xi_InvalidText => k_is)
    (case xt_InvalidText => k_is)
    (case l_InvalidText___init__ => k_is)
    (case c_InvalidText___init__ => k_is)
    (case k_InvalidText___init__ => k_is)
    (case xk_InvalidText => k_is)
    (case xe_InvalidText => k_is)
    (case xd_InvalidText => k_is)
    (case xs_InvalidText => k_is)
    (case xcl_InvalidText => k_is)
    (case xm_InvalidText => k_is)
    (case xl_NoMeeting => k_is)
    (case xsa_NoMeeting => k_is)
    (case xga_NoMeeting => k_is)
    (case xgg_NoMeeting => k_is)
    (case xno_NoMeeting => k_is)
    (case xi_NoMeeting => k_is)
    (case xt_NoMeeting => k_is)
    (case l_NoMeeting___init__ => k_is)
    (case c_NoMeeting___init__ => k_is)
    (case k_NoMeeting___init__ => k_is)
    (case xk_NoMeeting => k_is)
    (case xe_NoMeeting => k_is)
    (case xd_NoMeeting => k_is)
    (case xs_NoMeeting => k_is)
    (case xcl_NoMeeting => k_is)
    (case xm_NoMeeting => k_is)
    (case xl_Refused => k_is)
    (case xsa_Refused => k_is)
    (case xga_Refused => k_is)
    (case xgg_Refused => k_is)
    (case xno_Refused => k_is)
    (case xi_Refused => k_is)
    (case xt_Refused => k_is)
    (case l_Refused___init__ => k_is)
    (case c_Refused___init__ => k_is)
    (case k_Refused___init__ => k_is)
    (case xk_Refused => k_is)
    (case xe_Refused => k_is)
    (case xd_Refused => k_is)
    (case xs_Refused => k_is)
    (case xcl_Refused => k_is)
    (case xm_Refused => k_is)
    (case xga_InvalidSlot => k_is)
    (case xgg_InvalidSlot => k_is)
    (case xk_InvalidSlot => k_is)
    (case xe_InvalidSlot => k_is)
    (case xd_InvalidSlot => k_is)
    (case xs_InvalidSlot => k_is)
    (case xcl_InvalidSlot => k_is)
    (case xm_InvalidSlot => k_is)
    (case ei_InvalidSlot => first | kernel_rfl | rfl | decide +kernel)
    (case xga_InvalidCommand => k_is)
    (case xgg_InvalidCommand => k_is)
    (case xk_InvalidCommand => k_is)
    (case xe_InvalidCommand => k_is)
    (case xd_InvalidCommand => k_is)
    (case xs_InvalidCommand => k_is)
    (case xcl_InvalidCommand => k_is)
    (case xm_InvalidCommand => k_is)
    (case ei_InvalidCommand => first | kernel_rfl | rfl | decide +kernel)
    (case xk_InvalidCommand_DimError => k_is)
    (case xk_InvalidCommand_InvalidCommand => k_is)
    (case xk_InvalidCommand_InvalidDay => k_is)
    (case xk_InvalidCommand_InvalidFrame => k_is)
    (case xk_InvalidCommand_InvalidLooks => k_is)
    (case xk_InvalidCommand_InvalidRule => k_is)
    (case xk_InvalidCommand_InvalidSlot => k_is)
    (case xk_InvalidCommand_InvalidText => k_is)
    (case xk_InvalidCommand_NoMeeting => k_is)
    (case xk_InvalidCommand_Refused => k_is)
    (case xk_InvalidDay_DimError => k_is)
    (case xk_InvalidDay_InvalidCommand => k_is)
    (case xk_InvalidDay_InvalidDay => k_is)
    (case xk_InvalidDay_InvalidFrame => k_is)
    (case xk_InvalidDay_InvalidLooks => k_is)
    (case xk_InvalidDay_InvalidRule => k_is)
    (case xk_InvalidDay_InvalidSlot => k_is)
    (case xk_InvalidDay_InvalidText => k_is)
    (case xk_InvalidDay_NoMeeting => k_is)
    (case xk_InvalidDay_Refused => k_is)
    (case xk_InvalidFrame_DimError => k_is)
    (case xk_InvalidFrame_InvalidCommand => k_is)
    (case xk_InvalidFrame_InvalidDay => k_is)
    (case xk_InvalidFrame_InvalidFrame => k_is)
    (case xk_InvalidFrame_InvalidLooks => k_is)
    (case xk_InvalidFrame_InvalidRule => k_is)
    (case xk_InvalidFrame_InvalidSlot => k_is)
    (case xk_InvalidFrame_InvalidText => k_is)
    (case xk_InvalidFrame_NoMeeting => k_is)
    (case xk_InvalidFrame_Refused => k_is)
    (case xk_InvalidLooks_DimError => k_is)
    (case xk_InvalidLooks_InvalidCommand => k_is)
    (case xk_InvalidLooks_InvalidDay => k_is)
    (case xk_InvalidLooks_InvalidFrame => k_is)
    (case xk_InvalidLooks_InvalidLooks => k_is)
    (case xk_InvalidLooks_InvalidRule => k_is)
    (case xk_InvalidLooks_InvalidSlot => k_is)
    (case xk_InvalidLooks_InvalidText => k_is)
    (case xk_InvalidLooks_NoMeeting => k_is)
    (case xk_InvalidLooks_Refused => k_is)
    (case xk_InvalidRule_DimError => k_is)
    (case xk_InvalidRule_InvalidCommand => k_is)
    (case xk_InvalidRule_InvalidDay => k_is)
    (case xk_InvalidRule_InvalidFrame => k_is)
    (case xk_InvalidRule_InvalidLooks => k_is)
    (case xk_InvalidRule_InvalidRule => k_is)
    (case xk_InvalidRule_InvalidSlot => k_is)
    (case xk_InvalidRule_InvalidText => k_is)
    (case xk_InvalidRule_NoMeeting => k_is)
    (case xk_InvalidRule_Refused => k_is)
    (case xk_InvalidSlot_DimError => k_is)
    (case xk_InvalidSlot_InvalidCommand => k_is)
    (case xk_InvalidSlot_InvalidDay => k_is)
    (case xk_InvalidSlot_InvalidFrame => k_is)
    (case xk_InvalidSlot_InvalidLooks => k_is)
    (case xk_InvalidSlot_InvalidRule => k_is)
    (case xk_InvalidSlot_InvalidSlot => k_is)
    (case xk_InvalidSlot_InvalidText => k_is)
    (case xk_InvalidSlot_NoMeeting => k_is)
    (case xk_InvalidSlot_Refused => k_is)
    (case xk_InvalidText_DimError => k_is)
    (case xk_InvalidText_InvalidCommand => k_is)
    (case xk_InvalidText_InvalidDay => k_is)
    (case xk_InvalidText_InvalidFrame => k_is)
    (case xk_InvalidText_InvalidLooks => k_is)
    (case xk_InvalidText_InvalidRule => k_is)
    (case xk_InvalidText_InvalidSlot => k_is)
    (case xk_InvalidText_InvalidText => k_is)
    (case xk_InvalidText_NoMeeting => k_is)
    (case xk_InvalidText_Refused => k_is)
    (case xk_NoMeeting_DimError => k_is)
    (case xk_NoMeeting_InvalidCommand => k_is)
    (case xk_NoMeeting_InvalidDay => k_is)
    (case xk_NoMeeting_InvalidFrame => k_is)
    (case xk_NoMeeting_InvalidLooks => k_is)
    (case xk_NoMeeting_InvalidRule => k_is)
    (case xk_NoMeeting_InvalidSlot => k_is)
    (case xk_NoMeeting_InvalidText => k_is)
    (case xk_NoMeeting_NoMeeting => k_is)
    (case xk_NoMeeting_Refused => k_is)
    (case xk_Refused_DimError => k_is)
    (case xk_Refused_InvalidCommand => k_is)
    (case xk_Refused_InvalidDay => k_is)
    (case xk_Refused_InvalidFrame => k_is)
    (case xk_Refused_InvalidLooks => k_is)
    (case xk_Refused_InvalidRule => k_is)
    (case xk_Refused_InvalidSlot => k_is)
    (case xk_Refused_InvalidText => k_is)
    (case xk_Refused_NoMeeting => k_is)
    (case xk_Refused_Refused => k_is)
    (case xk_InvalidCommand_IndexError => k_is)
    (case xk_InvalidCommand_ValueError => k_is)
    (case xk_InvalidDay_IndexError => k_is)
    (case xk_InvalidDay_ValueError => k_is)
    (case xk_InvalidFrame_IndexError => k_is)
    (case xk_InvalidFrame_ValueError => k_is)
    (case xk_InvalidLooks_IndexError => k_is)
    (case xk_InvalidLooks_ValueError => k_is)
    (case xk_InvalidRule_IndexError => k_is)
    (case xk_InvalidRule_ValueError => k_is)
    (case xk_InvalidSlot_IndexError => k_is)
    (case xk_InvalidSlot_ValueError => k_is)
    (case xk_InvalidText_IndexError => k_is)
    (case xk_InvalidText_ValueError => k_is)
    (case xk_NoMeeting_IndexError => k_is)
    (case xk_NoMeeting_ValueError => k_is)
    (case xk_Refused_IndexError => k_is)
    (case xk_Refused_ValueError => k_is)
    (case b_IndexError => k_is)
    (case b_ValueError => k_is)
    (case b_abs => k_is)
    (case b_enumerate => k_is)
    (case b_int => k_is)
    (case b_isinstance => k_is)
    (case b_len => k_is)
    (case b_max => k_is)
    (case b_min => k_is)
    (case b_range => k_is)
    (case b_repr => k_is)
    (case b_tuple => k_is)
