import PyProof.Rows.All
import Wide.All
import OpenK.AllK
import Wide.FinOn
import HandS.ForMost
import HandS.Flow
import HandS.IsInst
import HandS.TupAny
import HandS.Deep
import HandS.Conv
import HandS.Wide
import HandS.Strs
import HandS.Exc
import HandS.ExcOwn
import HandS.WordsExc
import HandS.TryOnly
import HandS.Lambda
import HandS.Style
import HandS.Zip
import HandS.More
import HandS.Set
import HandS.Ends
import HandS.ExcIs
import HandS.EndOwn
import KE.KNestM
import HandS.TupMul
import HandS.RaiseMore
import HandS.StrMore
import HandS.FStr
import KE.GoesEnum
import PySem.Challenge.RW_pairskept_k10_whole_texts
set_option Elab.async false
set_option linter.all false
set_option maxRecDepth 100000
set_option maxHeartbeats 2000000
/-! # Data: what the values are worth, apart from where they lie -/
namespace DL
open PySem PySem.Spec L2
open PyProof.Rows hiding St

/-- data: lists (lst) that are never written again; ro: a list that is only read (the script, a constant); ref: the n-th of the things that are written -/
inductive D where
  | non | bl (b : Bool) | int (i : Int) | str (x : Str) | tup (l : List D) | lst (l : List D) | ro (l : List D) | ref (n : Nat) | raw (v : V)
/-- a thing that is written -/
inductive SO where
  | lst (l : List D)
  | dK (l : List (Key × D))
  | tab (q : Str)
abbrev Sto := List SO
structure Exn where
  cls : Str
  fld : Option (Str × D)
inductive Out (α : Type) where
  | ok (a : α) (st : Sto)
  | exn (x : Exn) (st : Sto)
  | bad
def Out.bind {α β : Type} (o : Out α) (k : α → Sto → Out β) : Out β := match o with
  | .ok a st => k a st
  | .exn x st => .exn x st
  | .bad => .bad
@[simp] theorem Out.bind_ok {α β : Type} (a : α) (st : Sto) (k : α → Sto → Out β) : (Out.ok a st).bind k = k a st := rfl
@[simp] theorem Out.bind_exn {α β : Type} (x : Exn) (st : Sto) (k : α → Sto → Out β) : (Out.exn x st).bind k = .exn x st := rfl
@[simp] theorem Out.bind_bad {α β : Type} (k : α → Sto → Out β) : (Out.bad : Out α).bind k = .bad := rfl
def Out.sat {α : Type} (o : Out α) (P : α → Sto → Prop) (E : Exn → Sto → Prop) : Prop := match o with
  | .ok a st => P a st
  | .exn x st => E x st
  | .bad => False
theorem Out.sat_bind {α β : Type} {o : Out α} {k : α → Sto → Out β} {P : β → Sto → Prop} {E : Exn → Sto → Prop} (h : (o.bind k).sat P E) : o.sat (fun a st => (k a st).sat P E) E := by
  cases o <;> exact h
theorem Out.sat.mono {α : Type} {o : Out α} {P P' : α → Sto → Prop} {E E' : Exn → Sto → Prop} (h : o.sat P E) (hP : ∀ a st, P a st → P' a st) (hE : ∀ x st, E x st → E' x st) : o.sat P' E' := by
  cases o with
  | ok a st => exact hP a st h
  | exn x st => exact hE x st h
  | bad => exact h

/-- where the written things lie, by number; what only the machine holds now (a comprehension's list in the making) -/
structure Bx where
  lo : List Addr
  pv : List Addr
def Bx.fre (β : Bx) (a : Addr) : Prop := a ∉ β.lo ∧ a ∉ β.pv
abbrev Env := List (Option D)
abbrev G (α : Type) := Env → Sto → Out α

section
variable (K : PySem.W.Frag)
/-- a list that is only read -/
def SqR (H : Hp) (a : Addr) (xs : List V) : Prop := (∃ o, H a = some (.frz o (.lst xs))) ∨
  ∃ (o : Obj) (its : Array Value) (n : Nat), K.lookup a = some o ∧ o.cls = .type "list" ∧ o.dict = none ∧ o.data = .seq its n ∧ its.size ≤ sizeLine ∧ Vals xs its.toList
mutual
inductive Rep (β : Bx) (H : Hp) : V → D → Prop
  | non : Rep β H .non .non
  | bl (b : Bool) : Rep β H (.bl b) (.bl b)
  | int (i : Int) : Rep β H (.int i) (.int i)
  | str (x : Str) : Rep β H (.str x) (.str x)
  | tup {a : Addr} {xs : List V} {ds : List D} : SqT K H a xs → Reps β H xs ds → ds.length ≤ sizeLine → Rep β H (.ref a) (.tup ds)
  | lst {a : Addr} {xs : List V} {ds : List D} : H a = some (.lst xs) → β.fre a → Reps β H xs ds → ds.length ≤ sizeLine → Rep β H (.ref a) (.lst ds)
  | ro {a : Addr} {xs : List V} {ds : List D} : SqR K H a xs → Reps β H xs ds → ds.length ≤ sizeLine → Rep β H (.ref a) (.ro ds)
  | ref {a : Addr} {n : Nat} : β.lo[n]? = some a → Rep β H (.ref a) (.ref n)
  | raw (v : V) : Rep β H v (.raw v)
inductive Reps (β : Bx) (H : Hp) : List V → List D → Prop
  | nil : Reps β H [] []
  | cons {v : V} {vs : List V} {d : D} {ds : List D} : Rep β H v d → Reps β H vs ds → Reps β H (v :: vs) (d :: ds)
end
end
/-- nothing stands there but a table -/
def Free (H : Hp) (p : Addr) : Prop := ∀ o, H p = some o → ∃ ps, o = .tbl ps
theorem Free.none {H : Hp} {p : Addr} (h : H p = .none) : Free H p := fun o z => by rw [h] at z; cases z
/-- how things move on: more may be written things, what isn't written stands -/
structure Ext (β : Bx) (H : Hp) (β' : Bx) (H' : Hp) : Prop where
  pre : ∃ new, β'.lo = β.lo ++ new ∧ ∀ p ∈ new, Free H p
  pv : β'.pv = β.pv
  keep : ∀ b o, b ∉ β.lo → H b = some o → (∀ ps, o ≠ .tbl ps) → H' b = some o
  tup : ∀ b xs, H b = some (.tup xs) → H' b = some (.tup xs)
  frz : ∀ b o u, H b = some (.frz o u) → H' b = some (.frz o u)
  dom : ∀ b o, H b = some o → (∀ ps, o ≠ .tbl ps) → ∃ o', H' b = some o' ∧ ∀ ps, o' ≠ .tbl ps
  cod : ∀ c q, H c = some (LamX.CodeO c q) → H' c = some (LamX.CodeO c q)
theorem Ext.refl (β : Bx) (H : Hp) : Ext β H β H := ⟨⟨[], by simp, by simp⟩, rfl, fun _ _ _ h _ => h, fun _ _ h => h, fun _ _ _ h => h, fun _ o h n => ⟨o, h, n⟩, fun _ _ h => h⟩
theorem Ext.trans {β β1 β2 : Bx} {H H1 H2 : Hp} (a : Ext β H β1 H1) (b : Ext β1 H1 β2 H2) : Ext β H β2 H2 := by
  obtain ⟨n1, e1, f1⟩ := a.pre
  obtain ⟨n2, e2, f2⟩ := b.pre
  refine ⟨⟨n1 ++ n2, by rw [e2, e1, List.append_assoc], fun p hp => ?_⟩, b.pv.trans a.pv, fun c o hc h hn => ?_, fun c xs h => b.tup c xs (a.tup c xs h), fun c o u h => b.frz c o u (a.frz c o u h), fun c o h n => ?_, fun c q h => b.cod c q (a.cod c q h)⟩
  · rcases List.mem_append.mp hp with hp | hp
    · exact f1 p hp
    · intro o q
      refine Classical.byContradiction fun hn => ?_
      obtain ⟨o', z, n⟩ := a.dom p o q fun ps z => hn ⟨ps, z⟩
      obtain ⟨ps, z⟩ := f2 p hp o' z
      exact n ps z
  · refine b.keep c o ?_ (a.keep c o hc h hn) hn
    rw [e1]
    intro z
    rcases List.mem_append.mp z with z | z
    · exact hc z
    · obtain ⟨ps, z⟩ := f1 c z o h
      exact hn ps z
  · obtain ⟨o', h', n'⟩ := a.dom c o h n
    exact b.dom c o' h' n'
theorem Ext.same {β : Bx} {H H' : Hp} (s : Same H H') : Ext β H β H' := ⟨⟨[], by simp, by simp⟩, rfl, fun _ _ _ h _ => s _ _ h, fun _ _ h => s _ _ h, fun _ _ _ h => s _ _ h, fun _ o h n => ⟨o, s _ _ h, n⟩, fun _ _ h => s _ _ h⟩
theorem same_new {H : Hp} {p : Addr} {o : HO} (h : H p = none) : Same H (upd H p o) := fun b x e => by
  rw [upd_ne (ne_of_none e h)]
  exact e
theorem Ext.new {β : Bx} {H : Hp} {p : Addr} {o : HO} (h : H p = none) : Ext β H β (upd H p o) := Ext.same (same_new h)
section
variable {K : PySem.W.Frag} {β β' : Bx} {H H' : Hp}
theorem Ext.mem (e : Ext β H β' H') {n : Nat} {a : Addr} (h : β.lo[n]? = some a) : β'.lo[n]? = some a := by
  obtain ⟨new, e1, _⟩ := e.pre
  rw [e1, List.getElem?_append_left (by exact (List.getElem?_eq_some_iff.mp h).1)]
  exact h
theorem Ext.nmem (e : Ext β H β' H') {a : Addr} {xs : List V} (h : H a = some (.lst xs)) (n : β.fre a) : β'.fre a := by
  obtain ⟨new, e1, f⟩ := e.pre
  refine ⟨fun z => ?_, by rw [e.pv]; exact n.2⟩
  rw [e1] at z
  rcases List.mem_append.mp z with z | z
  · exact n.1 z
  · obtain ⟨ps, z⟩ := f a z _ h
    cases z
theorem Ext.sqT (e : Ext β H β' H') {a : Addr} {xs : List V} (h : SqT K H a xs) : SqT K H' a xs := by
  rcases h with (h | ⟨o, h⟩) | h
  · exact .inl (.inl (e.tup _ _ h))
  · exact .inl (.inr ⟨o, e.frz _ _ _ h⟩)
  · exact .inr h
theorem Ext.sqR (e : Ext β H β' H') {a : Addr} {xs : List V} (h : SqR K H a xs) : SqR K H' a xs := by
  rcases h with ⟨o, h⟩ | h
  · exact .inl ⟨o, e.frz _ _ _ h⟩
  · exact .inr h
end

section
variable {K : PySem.W.Frag} {β β' : Bx} {H H' : Hp}
/-- what a value's data lean on stands -/
structure Mv (β : Bx) (H : Hp) (β' : Bx) (H' : Hp) : Prop where
  lst : ∀ a xs, H a = some (.lst xs) → β.fre a → H' a = some (.lst xs) ∧ β'.fre a
  tup : ∀ b xs, H b = some (.tup xs) → H' b = some (.tup xs)
  frz : ∀ b o u, H b = some (.frz o u) → H' b = some (.frz o u)
  mem : ∀ (n : Nat) (a : Addr), β.lo[n]? = some a → β'.lo[n]? = some a
  cod : ∀ c q, H c = some (LamX.CodeO c q) → H' c = some (LamX.CodeO c q)
theorem Mv.sqT (e : Mv β H β' H') {a : Addr} {xs : List V} (h : SqT K H a xs) : SqT K H' a xs := by
  rcases h with (h | ⟨o, h⟩) | h
  · exact .inl (.inl (e.tup _ _ h))
  · exact .inl (.inr ⟨o, e.frz _ _ _ h⟩)
  · exact .inr h
theorem Mv.sqR (e : Mv β H β' H') {a : Addr} {xs : List V} (h : SqR K H a xs) : SqR K H' a xs := by
  rcases h with ⟨o, h⟩ | h
  · exact .inl ⟨o, e.frz _ _ _ h⟩
  · exact .inr h
theorem Ext.mv (e : Ext β H β' H') : Mv β H β' H' := ⟨fun a xs h n => ⟨e.keep _ _ n.1 h (fun ps z => by cases z), e.nmem h n⟩, e.tup, e.frz, fun _ _ h => e.mem h, e.cod⟩
theorem Mv.trans {β2 : Bx} {H2 : Hp} (a : Mv β H β' H') (b : Mv β' H' β2 H2) : Mv β H β2 H2 :=
  ⟨fun c xs h n => let ⟨h1, n1⟩ := a.lst c xs h n; b.lst c xs h1 n1, fun c xs h => b.tup c xs (a.tup c xs h), fun c o u h => b.frz c o u (a.frz c o u h), fun n c h => b.mem n c (a.mem n c h), fun c q h => b.cod c q (a.cod c q h)⟩
mutual
theorem Rep.move (e : Mv β H β' H') : ∀ (d : D) (v : V), Rep K β H v d → Rep K β' H' v d
  | .non, _, h => by cases h; exact .non
  | .bl _, _, h => by cases h; exact .bl _
  | .int _, _, h => by cases h; exact .int _
  | .str _, _, h => by cases h; exact .str _
  | .tup ds, _, h => by cases h with | tup hs ha hl => exact .tup (e.sqT hs) (Reps.move e ds _ ha) hl
  | .lst ds, _, h => by cases h with | lst hs hn ha hl => exact .lst (e.lst _ _ hs hn).1 (e.lst _ _ hs hn).2 (Reps.move e ds _ ha) hl
  | .ro ds, _, h => by cases h with | ro hs ha hl => exact .ro (e.sqR hs) (Reps.move e ds _ ha) hl
  | .ref _, _, h => by cases h with | ref hm => exact .ref (e.mem _ _ hm)
  | .raw _, _, h => by cases h; exact .raw _
theorem Reps.move (e : Mv β H β' H') : ∀ (ds : List D) (vs : List V), Reps K β H vs ds → Reps K β' H' vs ds
  | [], _, h => by cases h; exact .nil
  | d :: ds, _, h => by cases h with | cons h1 h2 => exact .cons (Rep.move e d _ h1) (Reps.move e ds _ h2)
end
theorem Rep.ext (e : Ext β H β' H') (d : D) (v : V) (h : Rep K β H v d) : Rep K β' H' v d := Rep.move e.mv d v h
theorem Reps.ext (e : Ext β H β' H') (d : List D) (v : List V) (h : Reps K β H v d) : Reps K β' H' v d := Reps.move e.mv d v h
theorem Reps.length : ∀ {vs : List V} {ds : List D}, Reps K β H vs ds → vs.length = ds.length
  | _, _, .nil => rfl
  | _, _, .cons _ t => congrArg (· + 1) (Reps.length t)
theorem Reps.append : ∀ {vs ws : List V} {ds es : List D}, Reps K β H vs ds → Reps K β H ws es → Reps K β H (vs ++ ws) (ds ++ es)
  | _, _, _, _, .nil, s => s
  | _, _, _, _, .cons r t, s => .cons r (Reps.append t s)
theorem Reps.get : ∀ {vs : List V} {ds : List D} {i : Nat} {d : D}, Reps K β H vs ds → ds[i]? = some d → ∃ v, vs[i]? = some v ∧ Rep K β H v d
  | _, _, _, _, .nil, e => by simp at e
  | _, _, 0, _, .cons r _, e => by simp at e; subst e; exact ⟨_, rfl, r⟩
  | _, _, i + 1, d, .cons _ t, e => by
    obtain ⟨v, h1, h2⟩ := Reps.get (i := i) (d := d) t (by simpa using e)
    exact ⟨v, by simpa using h1, h2⟩
theorem Reps.got : ∀ {vs : List V} {ds : List D} {i : Nat} {v : V}, Reps K β H vs ds → vs[i]? = some v → ∃ d, ds[i]? = some d ∧ Rep K β H v d
  | _, _, _, _, .nil, e => by simp at e
  | _, _, 0, _, .cons r _, e => by simp at e; subst e; exact ⟨_, rfl, r⟩
  | _, _, i + 1, v, .cons _ t, e => by
    obtain ⟨d, h1, h2⟩ := Reps.got (i := i) (v := v) t (by simpa using e)
    exact ⟨d, by simpa using h1, h2⟩
theorem Reps.take : ∀ {vs : List V} {ds : List D} (n : Nat), Reps K β H vs ds → Reps K β H (vs.take n) (ds.take n)
  | _, _, 0, _ => .nil
  | _, _, _ + 1, .nil => .nil
  | _, _, n + 1, .cons r t => .cons r (Reps.take n t)
theorem Reps.drop : ∀ {vs : List V} {ds : List D} (n : Nat), Reps K β H vs ds → Reps K β H (vs.drop n) (ds.drop n)
  | _, _, 0, r => r
  | _, _, _ + 1, .nil => .nil
  | _, _, n + 1, .cons _ t => Reps.drop n t
theorem Reps.set {v : V} {d : D} (r : Rep K β H v d) : ∀ {vs : List V} {ds : List D} (i : Nat), Reps K β H vs ds → Reps K β H (vs.set i v) (ds.set i d)
  | _, _, _, .nil => .nil
  | _, _, 0, .cons _ t => .cons r t
  | _, _, i + 1, .cons q t => .cons q (Reps.set r i t)
theorem Reps.one {vs : List V} {d : D} (h : Reps K β H vs [d]) : ∃ v, vs = [v] ∧ Rep K β H v d := by
  cases h with | cons r t => cases t; exact ⟨_, rfl, r⟩
theorem Reps.two {vs : List V} {d e : D} (h : Reps K β H vs [d, e]) : ∃ v w, vs = [v, w] ∧ Rep K β H v d ∧ Rep K β H w e := by
  cases h with
  | cons r t =>
    obtain ⟨w, rfl, q⟩ := t.one
    exact ⟨_, w, rfl, r, q⟩

/-! ### what is written -/
/-- where the law's own table of code objects lies -/
def tabOf (K : PySem.W.Frag) (o : Option Obj) : Addr := match o with
  | some ⟨_, _, .fields vs, _⟩ => (match vs[11]? with
    | some (Value.ref P) => P
    | _ => 0)
  | _ => 0
def codeAt (K : PySem.W.Frag) (o : Option Obj) : Option Obj := match o with
  | some ⟨_, _, .func fd, _⟩ => (match fd.code with
    | Value.ref c => K.lookup c
    | _ => none)
  | _ => none
def tabAddr (K : PySem.W.Frag) : Addr := match PySem.W.nsIn K mainGlobals "law" with
  | some (some (Value.ref f)) => tabOf K (codeAt K (K.lookup f))
  | _ => 0
def SORel (K : PySem.W.Frag) (β : Bx) (H : Hp) (a : Addr) : SO → Prop
  | .lst ds => ∃ xs, H a = some (.lst xs) ∧ Reps K β H xs ds
  | .dK kvs => ∃ vs, H a = some (.dK vs) ∧ vs.length = kvs.length ∧ vs.map (·.1) = kvs.map (·.1) ∧ Reps K β H (vs.map (·.2)) (kvs.map (·.2))
  | .tab q => a = tabAddr K ∧ LamX.TabS H a q
structure StoOk (K : PySem.W.Frag) (β : Bx) (H : Hp) (st : Sto) : Prop where
  len : β.lo.length = st.length
  nd : β.lo.Nodup
  obj : ∀ (n : Nat) (a : Addr) (o : SO), β.lo[n]? = some a → st[n]? = some o → SORel K β H a o
  priv : ∀ p ∈ β.pv, ∃ u, H p = some u ∧ ∀ ps, u ≠ .tbl ps
theorem SORel.there {a : Addr} {o : SO} (h : SORel K β H a o) : ∃ u, H a = some u := by
  cases o with
  | lst ds => obtain ⟨xs, h, _⟩ := h; exact ⟨_, h⟩
  | dK kvs => obtain ⟨vs, h, _⟩ := h; exact ⟨_, h⟩
  | tab q => obtain ⟨_, ps, h, _⟩ := h; exact ⟨_, h⟩
theorem StoOk.get {st : Sto} (S : StoOk K β H st) {n : Nat} {a : Addr} (h : β.lo[n]? = some a) : ∃ o, st[n]? = some o ∧ SORel K β H a o := by
  have hl : n < st.length := by rw [← S.len]; exact (List.getElem?_eq_some_iff.mp h).1
  exact ⟨st[n], List.getElem?_eq_getElem hl, S.obj n a _ h (List.getElem?_eq_getElem hl)⟩
theorem StoOk.some {st : Sto} (S : StoOk K β H st) {a : Addr} (h : a ∈ β.lo) : ∃ u, H a = some u := by
  obtain ⟨n, hn⟩ := List.mem_iff_getElem?.mp h
  obtain ⟨o, _, r⟩ := S.get hn
  exact r.there
theorem StoOk.nmem {st : Sto} (S : StoOk K β H st) {a : Addr} (h : H a = none) : β.fre a := by
  refine ⟨fun z => ?_, fun z => ?_⟩
  · obtain ⟨u, hu⟩ := S.some z
    rw [h] at hu
    cases hu
  · obtain ⟨u, hu, _⟩ := S.priv a z
    rw [h] at hu
    cases hu
theorem SORel.same {a : Addr} {o : SO} (s : Same H H') (h : SORel K β H a o) : SORel K β H' a o := by
  cases o with
  | lst ds => obtain ⟨xs, h, r⟩ := h; exact ⟨xs, s _ _ h, Reps.ext (Ext.same s) _ _ r⟩
  | dK kvs => obtain ⟨vs, h, l, k, r⟩ := h; exact ⟨vs, s _ _ h, l, k, Reps.ext (Ext.same s) _ _ r⟩
  | tab q => exact ⟨h.1, h.2.ext s⟩
theorem StoOk.same {st : Sto} (S : StoOk K β H st) (s : Same H H') : StoOk K β H' st := ⟨S.len, S.nd, fun n a o h1 h2 => (S.obj n a o h1 h2).same s, fun p hp => let ⟨u, hu, n⟩ := S.priv p hp; ⟨u, s _ _ hu, n⟩⟩
theorem StoOk.fresh {st : Sto} (S : StoOk K β H st) {p : Addr} {o : HO} (h : H p = none) : StoOk K β (upd H p o) st := S.same (same_new h)

theorem tab_move {a : Addr} {q : Str} (e : Mv β H β' H') (k : ∀ u, H a = some u → H' a = some u) (h : LamX.TabS H a q) : LamX.TabS H' a q := by
  obtain ⟨ps, h1, h2, h3⟩ := h
  refine ⟨ps, k _ h1, h2, fun pos cv hc => ?_⟩
  obtain ⟨c, e1, e2⟩ := h3 pos cv hc
  exact ⟨c, e1, e.cod c q e2⟩
theorem SORel.move {a : Addr} {o : SO} (e : Mv β H β' H') (k : ∀ u, H a = some u → H' a = some u) (h : SORel K β H a o) : SORel K β' H' a o := by
  cases o with
  | lst ds => obtain ⟨xs, h, r⟩ := h; exact ⟨xs, k _ h, Reps.move e _ _ r⟩
  | dK kvs => obtain ⟨vs, h, l, q, r⟩ := h; exact ⟨vs, k _ h, l, q, Reps.move e _ _ r⟩
  | tab q => exact ⟨h.1, tab_move e k h.2⟩
/-- the machine holds a new thing at p -/
def Bx.hold (β : Bx) (p : Addr) : Bx := ⟨β.lo, p :: β.pv⟩
/-- .. gives it away -/
def Bx.back (β : Bx) (pv : List Addr) : Bx := ⟨β.lo, pv⟩
theorem Mv.hold {p : Addr} {o : HO} (h : H p = none) : Mv β H (β.hold p) (upd H p o) :=
  ⟨fun a xs ha n => ⟨same_new h _ _ ha, n.1, fun z => (List.mem_cons.mp z).elim (fun e => ne_of_none ha h e) n.2⟩, fun _ _ q => same_new h _ _ q, fun _ _ _ q => same_new h _ _ q, fun _ _ q => q, fun _ _ q => same_new h _ _ q⟩
theorem StoOk.hold {st : Sto} {p : Addr} {o : HO} (S : StoOk K β H st) (h : H p = none) (no : ∀ ps, o ≠ .tbl ps := by intro _ z; cases z) : StoOk K (β.hold p) (upd H p o) st :=
  ⟨S.len, S.nd, fun n a u h1 h2 => (S.obj n a u h1 h2).move (Mv.hold h) fun _ q => same_new h _ _ q, fun q hq => by
    rcases List.mem_cons.mp hq with rfl | hq
    · exact ⟨o, upd_same, no⟩
    · obtain ⟨u, hu, n⟩ := S.priv q hq
      exact ⟨u, same_new h _ _ hu, n⟩⟩
theorem Mv.poke {p : Addr} {xs : List V} {o : HO} (hp : p ∈ β.pv) (h : H p = some (.lst xs)) : Mv β H β (upd H p o) := by
  have ne : ∀ b u, H b = some u → u ≠ .lst xs → b ≠ p := fun b u q n z => by
    rw [z, h] at q
    exact n (Option.some.inj q).symm
  exact ⟨fun a xs ha n => ⟨by rw [upd_ne (show a ≠ p from fun z => n.2 (by rw [z]; exact hp))]; exact ha, n⟩, fun b _ q => by rw [upd_ne (ne b _ q fun z => by cases z)]; exact q, fun b _ _ q => by rw [upd_ne (ne b _ q fun z => by cases z)]; exact q, fun _ _ q => q, fun b _ q => by rw [upd_ne (ne b _ q fun z => by cases z)]; exact q⟩
theorem StoOk.poke {st : Sto} {p : Addr} {xs : List V} {o : HO} (S : StoOk K β H st) (hp : p ∈ β.pv) (hl : p ∉ β.lo) (h : H p = Option.some (.lst xs)) (no : ∀ ps, o ≠ .tbl ps := by intro _ z; cases z) : StoOk K β (upd H p o) st :=
  ⟨S.len, S.nd, fun n a u h1 h2 => (S.obj n a u h1 h2).move (Mv.poke hp h) fun v q => by rw [upd_ne (show a ≠ p from fun z => hl (by rw [← z]; exact List.mem_iff_getElem?.mpr ⟨n, h1⟩))]; exact q, fun q hq => by
    by_cases e : q = p
    · exact ⟨o, by rw [e, upd_same], no⟩
    · obtain ⟨u, hu, n⟩ := S.priv q hq
      exact ⟨u, by rw [upd_ne e]; exact hu, n⟩⟩
theorem Mv.back {pv : List Addr} (hs : ∀ a ∈ pv, a ∈ β.pv) : Mv β H (β.back pv) H := ⟨fun a xs h n => ⟨h, n.1, fun z => n.2 (hs a z)⟩, fun _ _ q => q, fun _ _ _ q => q, fun _ _ q => q, fun _ _ q => q⟩
theorem StoOk.back {st : Sto} {pv : List Addr} (S : StoOk K β H st) (hs : ∀ a ∈ pv, a ∈ β.pv) : StoOk K (β.back pv) H st :=
  ⟨S.len, S.nd, fun n a u h1 h2 => (S.obj n a u h1 h2).move (Mv.back hs) fun _ q => q, fun q hq => S.priv q (hs q hq)⟩
/-- while p was held -/
theorem Ext.held {β1 : Bx} {H1 : Hp} {p : Addr} {o : HO} (h : H p = none) (e : Ext (β.hold p) (upd H p o) β1 H1) : Ext β H (β1.back β.pv) H1 := by
  obtain ⟨new, e1, f⟩ := e.pre
  refine ⟨⟨new, e1, fun q hq => ?_⟩, rfl, fun b u hb hu hn => e.keep b u hb (same_new h _ _ hu) hn, fun b xs q => e.tup b xs (same_new h _ _ q), fun b o u q => e.frz b o u (same_new h _ _ q), fun b u q n => e.dom b u (same_new h _ _ q) n, fun c q z => e.cod c q (same_new h _ _ z)⟩
  have z := f q hq
  by_cases hqp : q = p
  · rw [hqp]; exact Free.none h
  · intro w hw
    exact z w (by rw [upd_ne hqp]; exact hw)
theorem Ext.poke {β1 : Bx} {H1 : Hp} {p : Addr} {ys : List V} {xs : List V} {u : HO} (h : H p = none) (e : Ext (β.hold p) (upd H p (.lst ys)) β1 H1) (hx : H1 p = some (.lst xs)) (no : ∀ ps, u ≠ .tbl ps := by intro _ z; cases z) : Ext (β.hold p) (upd H p u) β1 (upd H1 p u) := by
  obtain ⟨new, e1, f⟩ := e.pre
  have up : ∀ {b : Addr} {w x : HO}, b ≠ p → upd H p w b = some x → upd H p (.lst ys) b = some x := fun {b w x} n q => by rw [upd_ne n] at q ⊢; exact q
  refine ⟨⟨new, e1, fun q hq => ?_⟩, e.pv, fun b v hb hv hn => ?_, fun b ys q => ?_, fun b w v q => ?_, fun b v q n => ?_, fun c q' z => ?_⟩
  · have z := f q hq
    by_cases hqp : q = p
    · obtain ⟨ps, z⟩ := z (.lst ys) (by rw [hqp, upd_same])
      cases z
    · intro w hw
      exact z w (up hqp hw)
  · by_cases hbp : b = p
    · rw [hbp, upd_same] at hv ⊢
      exact hv
    · rw [upd_ne hbp]
      exact e.keep b v hb (up hbp hv) hn
  · by_cases hbp : b = p
    · rw [hbp, upd_same] at q ⊢
      exact q
    · rw [upd_ne hbp]
      exact e.tup b ys (up hbp q)
  · by_cases hbp : b = p
    · rw [hbp, upd_same] at q ⊢
      exact q
    · rw [upd_ne hbp]
      exact e.frz b w v (up hbp q)
  · by_cases hbp : b = p
    · exact ⟨u, by rw [hbp, upd_same], no⟩
    · rw [upd_ne hbp]
      exact e.dom b v (up hbp q) n
  · by_cases hbp : c = p
    · rw [hbp, upd_same] at z ⊢
      exact z
    · rw [upd_ne hbp]
      exact e.cod c q' (up hbp z)

/-! ### the slots -/
def RepEnv (K : PySem.W.Frag) (β : Bx) (H : Hp) (σ : St) (ρ : Env) : Prop := σ.length = ρ.length ∧ ∀ (i : Nat) (d : D), ρ[i]? = some (some d) → ∃ v, σ[i]? = some (some v) ∧ Rep K β H v d
theorem RepEnv.ext {σ : St} {ρ : Env} (h : RepEnv K β H σ ρ) (e : Ext β H β' H') : RepEnv K β' H' σ ρ := ⟨h.1, fun i d q => by
  obtain ⟨v, h1, h2⟩ := h.2 i d q
  exact ⟨v, h1, Rep.ext e _ _ h2⟩⟩
theorem RepEnv.set {σ : St} {ρ : Env} (h : RepEnv K β H σ ρ) (i : Nat) {v : V} {d : D} (r : Rep K β H v d) : RepEnv K β H (σ.set i (some v)) (ρ.set i (some d)) := by
  refine ⟨by rw [List.length_set, List.length_set]; exact h.1, fun j e q => ?_⟩
  by_cases hj : i = j
  · subst hj
    have hl : i < ρ.length := by
      have := (List.getElem?_eq_some_iff.mp q).1
      simpa using this
    rw [List.getElem?_set_self hl] at q
    have q := Option.some.inj (Option.some.inj q)
    subst q
    exact ⟨v, List.getElem?_set_self (by rw [h.1]; exact hl), r⟩
  · rw [List.getElem?_set_ne hj] at q
    obtain ⟨w, h1, h2⟩ := h.2 j e q
    exact ⟨w, by rw [List.getElem?_set_ne hj]; exact h1, h2⟩

/-! ### ends -/
/-- an error by its class's name -/
def XRep (K : PySem.W.Frag) (mg : Str → Option Value) (β : Bx) (H : Hp) (x : Exn) (cls : Value) (dd : Option Addr) : Prop :=
  mg x.cls = some cls ∧ match x.fld with
    | none => dd = none
    | some (f, d) => ∃ da v, dd = some da ∧ H da = some (.xd [(f, v)]) ∧ Rep K β H v d
def PostV (K : PySem.W.Frag) (Q : VK) (β : Bx) (H : Hp) : D → Sto → Prop := fun d st' => ∀ v β' H', Ext β H β' H' → StoOk K β' H' st' → Rep K β' H' v d → Q v H'
def PostX (K : PySem.W.Frag) (mg : Str → Option Value) (E : XK) (β : Bx) (H : Hp) : Exn → Sto → Prop := fun x st' => ∀ cls dd β' H', Ext β H β' H' → StoOk K β' H' st' → XRep K mg β' H' x cls dd → E cls dd H'
theorem PostV.ext {Q : VK} {d : D} {st : Sto} (p : PostV K Q β H d st) (e : Ext β H β' H') : PostV K Q β' H' d st := fun v β2 H2 e2 => p v β2 H2 (e.trans e2)
theorem PostX.ext {mg : Str → Option Value} {E : XK} {x : Exn} {st : Sto} (p : PostX K mg E β H x st) (e : Ext β H β' H') : PostX K mg E β' H' x st := fun c d β2 H2 e2 => p c d β2 H2 (e.trans e2)
end

/-- an expression's reading by its data -/
def tD (K : PySem.W.Frag) (mg : Str → Option Value) (W : WX) (f : G D) : TE := fun σ H Q => ∃ β ρ st, RepEnv K β H σ ρ ∧ StoOk K β H st ∧
  (f ρ st).sat (PostV K Q β H) (PostX K mg (fun c d H' => W c d σ H') β H)
def PostB (K : PySem.W.Frag) (Q : Bool → Hp → Prop) (β : Bx) (H : Hp) : Bool → Sto → Prop := fun b st' => ∀ β' H', Ext β H β' H' → StoOk K β' H' st' → Q b H'
def tDT (K : PySem.W.Frag) (mg : Str → Option Value) (W : WX) (f : G Bool) : TT := fun σ H Q => ∃ β ρ st, RepEnv K β H σ ρ ∧ StoOk K β H st ∧
  (f ρ st).sat (PostB K Q β H) (PostX K mg (fun c d H' => W c d σ H') β H)
def PostA (K : PySem.W.Frag) (Q : List V → Hp → Prop) (β : Bx) (H : Hp) : List D → Sto → Prop := fun ds st' => ∀ vs β' H', Ext β H β' H' → StoOk K β' H' st' → Reps K β' H' vs ds → Q vs H'
def tDA (K : PySem.W.Frag) (mg : Str → Option Value) (W : WX) (f : G (List D)) : TA := fun σ H Q => ∃ β ρ st, RepEnv K β H σ ρ ∧ StoOk K β H st ∧
  (f ρ st).sat (PostA K Q β H) (PostX K mg (fun c d H' => W c d σ H') β H)
inductive Fl where
  | nx (ρ : Env) | rt (d : D) | bk (ρ : Env) | ct (ρ : Env)
def PostF (K : PySem.W.Frag) (D' : Ends) (β : Bx) (H : Hp) : Fl → Sto → Prop := fun f st' => match f with
  | .nx ρ => ∀ σ β' H', Ext β H β' H' → StoOk K β' H' st' → RepEnv K β' H' σ ρ → D'.nx σ H'
  | .rt d => ∀ v β' H', Ext β H β' H' → StoOk K β' H' st' → Rep K β' H' v d → D'.rt v H'
  | .bk ρ => ∀ σ β' H', Ext β H β' H' → StoOk K β' H' st' → RepEnv K β' H' σ ρ → D'.bk σ H'
  | .ct ρ => ∀ σ β' H', Ext β H β' H' → StoOk K β' H' st' → RepEnv K β' H' σ ρ → D'.ct σ H'
def PostXS (K : PySem.W.Frag) (mg : Str → Option Value) (W : WX) (β : Bx) (H : Hp) : Exn → Sto → Prop := fun x st' => ∀ cls dd σ β' H', Ext β H β' H' → StoOk K β' H' st' → XRep K mg β' H' x cls dd → W cls dd σ H'
def tDS (K : PySem.W.Frag) (mg : Str → Option Value) (W : WX) (f : G Fl) : TS := fun D' σ H => ∃ β ρ st, RepEnv K β H σ ρ ∧ StoOk K β H st ∧
  (f ρ st).sat (PostF K D' β H) (PostXS K mg W β H)

theorem PEmono {X : Cx} {e : Expr} {t t' : TE} (h : PE X e t) (i : ∀ σ H Q, t' σ H Q → t σ H Q) : PE X e t' := ⟨fun pins s σ H Q I q => h.run pins s σ H Q I (i _ _ _ q)⟩
theorem PTmono {X : Cx} {e : Expr} {t t' : TT} (h : PT X e t) (i : ∀ σ H Q, t' σ H Q → t σ H Q) : PT X e t' := ⟨fun pins s σ H Q I q => h.run pins s σ H Q I (i _ _ _ q)⟩
theorem PWmono {X : Cx} {e : Expr} {t t' : TT} (h : PW X e t) (i : ∀ σ H Q, t' σ H Q → t σ H Q) : PW X e t' := ⟨fun wh pins s σ H Q I q => h.run wh pins s σ H Q I (i _ _ _ q)⟩
theorem PAmono {X : Cx} {es : List Expr} {t t' : TA} (h : PA X es t) (i : ∀ σ H Q, t' σ H Q → t σ H Q) : PA X es t' := ⟨fun pos pins s σ H Q I q => h.run pos pins s σ H Q I (i _ _ _ q)⟩
theorem PSmono {X : Cx} {st : Stmt} {t t' : TS} (h : PS X st t) (i : ∀ D' σ H, t' D' σ H → t D' σ H) : PS X st t' := ⟨fun pins s σ H D' I q => h.run pins s σ H D' I (i _ _ _ q)⟩
theorem PSsmono {X : Cx} {st : List Stmt} {t t' : TS} (h : PSs X st t) (i : ∀ D' σ H, t' D' σ H → t D' σ H) : PSs X st t' := ⟨fun pins s σ H D' I q => h.run pins s σ H D' I (i _ _ _ q)⟩
theorem PImono {X : Cx} {tg e : Expr} {t t' : TI} (h : PI X tg e t) (i : ∀ σ H R, t' σ H R → t σ H R) : PI X tg e t' := ⟨fun pins s σ H R I q => h.run pins s σ H R I (i _ _ _ q)⟩
theorem PGmono {X : Cx} {tg : Expr} {t t' : TG} (h : PG X tg t) (i : ∀ v σ H Q, t' v σ H Q → t v σ H Q) : PG X tg t' := ⟨fun pins s σ H v u Q I r q => h.run pins s σ H v u Q I r (i _ _ _ _ q)⟩

abbrev DE (X : Cx) (W : WX) (e : Expr) (f : G D) : Prop := PE X e (tD X.K X.mg W f)
abbrev DT (X : Cx) (W : WX) (e : Expr) (f : G Bool) : Prop := PT X e (tDT X.K X.mg W f)
abbrev DW (X : Cx) (W : WX) (e : Expr) (f : G Bool) : Prop := PW X e (tDT X.K X.mg W f)
abbrev DA (X : Cx) (W : WX) (es : List Expr) (f : G (List D)) : Prop := PA X es (tDA X.K X.mg W f)
abbrev DS (X : Cx) (W : WX) (st : Stmt) (f : G Fl) : Prop := PS X st (tDS X.K X.mg W f)
abbrev DSs (X : Cx) (W : WX) (st : List Stmt) (f : G Fl) : Prop := PSs X st (tDS X.K X.mg W f)
end DL

set_option Elab.async false
set_option linter.all false
set_option maxRecDepth 100000
set_option maxHeartbeats 2000000
namespace DL
open PySem PySem.Spec L2
open PyProof.Rows hiding St

/-! ### data as PyData, for == and in -/
mutual
def D.py : D → PyData
  | .non => .none
  | .bl b => .bool b
  | .int i => .int i
  | .str x => .str x
  | .tup l => .tuple (D.pys l)
  | .lst l => .list (D.pys l)
  | .ro l => .list (D.pys l)
  | .ref _ => .dict []
  | .raw _ => .dict []
def D.pys : List D → List PyData
  | [] => []
  | d :: ds => D.py d :: D.pys ds
end
section
variable {K : PySem.W.Frag} {β : Bx} {H : Hp}
theorem SqR.sqL {a : Addr} {xs : List V} (h : SqR K H a xs) : SqL K H a xs := by
  rcases h with ⟨o, h⟩ | h
  · exact .inl (.inr ⟨o, h⟩)
  · exact .inr h
mutual
theorem Rep.dp : ∀ (d : D) (v : V), d.py.canLay0 = true → Rep K β H v d → Dp K H v d.py
  | .non, _, _, h => by cases h; simp only [D.py]; exact .non
  | .bl _, _, _, h => by cases h; simp only [D.py]; exact .bl _
  | .int _, _, _, h => by cases h; simp only [D.py]; exact .int _
  | .str _, _, _, h => by cases h; simp only [D.py]; exact .str _
  | .tup ds, _, c, h => by
    cases h with
    | tup hs ha hl =>
      simp only [D.py, PyData.canLay0] at c ⊢
      exact .tup hs (Reps.dp ds _ c ha)
  | .lst ds, _, c, h => by
    cases h with
    | lst hs hn ha hl =>
      simp only [D.py, PyData.canLay0] at c ⊢
      exact .lst (.inl (.inl hs)) (Reps.dp ds _ c ha)
  | .ro ds, _, c, h => by
    cases h with
    | ro hs ha hl =>
      simp only [D.py, PyData.canLay0] at c ⊢
      exact .lst hs.sqL (Reps.dp ds _ c ha)
  | .ref _, _, c, h => by simp [D.py, PyData.canLay0] at c
  | .raw _, _, c, h => by simp [D.py, PyData.canLay0] at c
theorem Reps.dp : ∀ (ds : List D) (vs : List V), PyData.canLayAll0 (D.pys ds) = true → Reps K β H vs ds → DpAll K H vs (D.pys ds)
  | [], _, _, h => by cases h; simp only [D.pys]; exact .nil
  | d :: ds, _, c, h => by
    cases h with
    | cons h1 h2 =>
      simp only [D.pys, PyData.canLayAll0, Bool.and_eq_true] at c ⊢
      exact .cons (Rep.dp d _ c.1 h1) (Reps.dp ds _ c.2 h2)
end
end

/-! ### operators by values -/
def oout {α : Type} (o : Option α) (st : Sto) : Out α := match o with
  | some a => .ok a st
  | none => .bad
@[simp] theorem oout_some {α : Type} (a : α) (st : Sto) : oout (some a) st = .ok a st := rfl
@[simp] theorem oout_none {α : Type} (st : Sto) : oout (none : Option α) st = .bad := rfl
theorem oout_sat {α : Type} {o : Option α} {st : Sto} {P : α → Sto → Prop} {E : Exn → Sto → Prop} (h : (oout o st).sat P E) : ∃ a, o = some a ∧ P a st := by
  cases o with
  | none => exact h.elim
  | some a => exact ⟨a, rfl, h⟩
/-- what a rule by values asks, by data: nothing that is written changes -/
def OpD (K : PySem.W.Frag) (r : R2) (m : D → D → Sto → Option D) : Prop := ∀ (β : Bx) (H : Hp) (st : Sto) (x y : V) (dx dy d : D) (Q : VK), Rep K β H x dx → Rep K β H y dy → StoOk K β H st → m dx dy st = some d →
  (∀ v H', Same H H' → Rep K β H' v d → Q v H') → r x y H Q
def UnD (K : PySem.W.Frag) (r : V → Hp → VK → Prop) (m : D → Sto → Option D) : Prop := ∀ (β : Bx) (H : Hp) (st : Sto) (x : V) (dx d : D) (Q : VK), Rep K β H x dx → StoOk K β H st → m dx st = some d →
  (∀ v H', Same H H' → Rep K β H' v d → Q v H') → r x H Q
def CallD (K : PySem.W.Frag) (r : List V → Hp → VK → Prop) (m : List D → Sto → Option D) : Prop := ∀ (β : Bx) (H : Hp) (st : Sto) (xs : List V) (ds : List D) (d : D) (Q : VK), Reps K β H xs ds → StoOk K β H st → m ds st = some d →
  (∀ v H', Same H H' → Rep K β H' v d → Q v H') → r xs H Q

def gC (d : D) : G D := fun _ st => .ok d st
def gVar (i : Nat) : G D := fun ρ st => match ρ[i]? with
  | some (some d) => .ok d st
  | _ => .bad
def gOp (m : D → D → Sto → Option D) (f g : G D) : G D := fun ρ st => (f ρ st).bind fun d s1 => (g ρ s1).bind fun e s2 => oout (m d e s2) s2
def gUn (m : D → Sto → Option D) (f : G D) : G D := fun ρ st => (f ρ st).bind fun d s1 => oout (m d s1) s1
def aNil : G (List D) := fun _ st => .ok [] st
def aCons (f : G D) (g : G (List D)) : G (List D) := fun ρ st => (f ρ st).bind fun d s1 => (g ρ s1).bind fun ds s2 => .ok (d :: ds) s2
def gCB (m : List D → Sto → Option D) (f : G (List D)) : G D := fun ρ st => (f ρ st).bind fun ds s1 => oout (m ds s1) s1

section
variable {K : PySem.W.Frag} {mg : Str → Option Value} {W : WX} {β : Bx} {H : Hp} {σ : L2.St} {ρ : Env} {st : Sto}
theorem tD_intro {f : G D} {P : D → Sto → Prop} {E : Exn → Sto → Prop} {R : VK} (hρ : RepEnv K β H σ ρ) (hs : StoOk K β H st) (h : (f ρ st).sat P E)
    (hP : ∀ d st', P d st' → ∀ v β' H', Ext β H β' H' → StoOk K β' H' st' → Rep K β' H' v d → R v H') (hE : ∀ x st', E x st' → PostX K mg (fun c d H' => W c d σ H') β H x st') : tD K mg W f σ H R :=
  ⟨β, ρ, st, hρ, hs, h.mono hP hE⟩
theorem tDA_intro {f : G (List D)} {P : List D → Sto → Prop} {E : Exn → Sto → Prop} {R : List V → Hp → Prop} (hρ : RepEnv K β H σ ρ) (hs : StoOk K β H st) (h : (f ρ st).sat P E)
    (hP : ∀ d st', P d st' → ∀ v β' H', Ext β H β' H' → StoOk K β' H' st' → Reps K β' H' v d → R v H') (hE : ∀ x st', E x st' → PostX K mg (fun c d H' => W c d σ H') β H x st') : tDA K mg W f σ H R :=
  ⟨β, ρ, st, hρ, hs, h.mono hP hE⟩
theorem tDT_intro {f : G Bool} {P : Bool → Sto → Prop} {E : Exn → Sto → Prop} {R : Bool → Hp → Prop} (hρ : RepEnv K β H σ ρ) (hs : StoOk K β H st) (h : (f ρ st).sat P E)
    (hP : ∀ d st', P d st' → ∀ β' H', Ext β H β' H' → StoOk K β' H' st' → R d H') (hE : ∀ x st', E x st' → PostX K mg (fun c d H' => W c d σ H') β H x st') : tDT K mg W f σ H R :=
  ⟨β, ρ, st, hρ, hs, h.mono hP hE⟩
end

section
variable {X : Cx} {W : WX} {pos : Pos} {a b e : Expr} {es : List Expr} {f g : G D} {fs : G (List D)}
theorem de_var (i : Nat) {x : Str} (hN : X.N[i]? = some x := by rfl) (hv : Vis X.env.scope x := by first | exact Or.inl rfl | exact Or.inr (Or.inl rfl) | exact Or.inr (Or.inr rfl)) (hd : (x == ("__debug__" : Str)) = false := by decide)
    (hcd : (x == ("__classdict__" : Str)) = false := by decide) : DE X W (.Name x pos) (gVar i) := by
  refine PEmono (pe_var hN hv hd hcd) fun σ H Q h => ?_
  obtain ⟨β, ρ, st, hρ, hs, h⟩ := h
  unfold gVar at h
  split at h
  · rename_i d hd
    obtain ⟨v, hv, r⟩ := hρ.2 i d hd
    exact ⟨v, hv, h v β H (Ext.refl β H) hs r⟩
  · exact h.elim
theorem de_const {e : Expr} {v : V} {d : D} (h : PE X e (tC v)) (r : ∀ β H, Rep X.K β H v d) : DE X W e (gC d) := by
  refine PEmono h fun σ H Q h => ?_
  obtain ⟨β, ρ, st, hρ, hs, h⟩ := h
  exact h v β H (Ext.refl β H) hs (r β H)
theorem de_int {i j} : DE X W (.Constant (.int i) j pos) (gC (.int i)) := de_const pe_int fun _ _ => .int i
theorem de_bl {b j} : DE X W (.Constant (.bool b) j pos) (gC (.bl b)) := de_const pe_bl fun _ _ => .bl b
theorem de_non {j} : DE X W (.Constant .none j pos) (gC .non) := de_const pe_non fun _ _ => .non
theorem de_str {x j} : DE X W (.Constant (.str x) j pos) (gC (.str x)) := de_const pe_str fun _ _ => .str x
theorem de_glob {x : Str} {v : V} {u : Value} {d : D} (hg : Gl X x) (hm : X.mg x = some u) (r : RelV v u) (rd : ∀ β H, Rep X.K β H v d) (hd : (x == ("__debug__" : Str)) = false := by decide) : DE X W (.Name x pos) (gC d) := de_const (pe_glob hg hm r hd) rd
theorem de_type {x : Str} {T : String} (hg : Gl X x) (hm : X.mg x = none) (hv : bootBuiltins x = some (.type T)) (hn : x ≠ "__name__" := by decide) (hd : (x == ("__debug__" : Str)) = false := by decide) : DE X W (.Name x pos) (gC (.raw (.ty T))) :=
  de_const (pe_bltn hg hm hv (v := .ty T) rfl hn hd) fun _ _ => .raw _
theorem de_op {op : Operator} {r : R2} {m : D → D → Sto → Option D} (ho : OpR X (binaryOp op) r) (hm : OpD X.K r m) (ha : DE X W a f) (hb : DE X W b g) : DE X W (.BinOp a op b pos) (gOp m f g) := by
  refine PEmono (pe_op ho ha hb) fun σ H Q h => ?_
  obtain ⟨β, ρ, st, hρ, hs, h⟩ := h
  refine tD_intro hρ hs (Out.sat_bind h) (fun d s1 h1 v β1 H1 e1 S1 r1 => ?_) fun _ _ q => q
  refine tD_intro (hρ.ext e1) S1 (Out.sat_bind h1) (fun d2 s2 h2 v2 β2 H2 e2 S2 r2 => ?_) fun _ _ q => q.ext e1
  obtain ⟨d3, q, p⟩ := oout_sat h2
  exact hm β2 H2 s2 v v2 d d2 d3 Q (Rep.ext e2 _ _ r1) r2 S2 q fun w' H' s' r' => p w' β2 H' ((e1.trans e2).trans (Ext.same s')) (S2.same s') r'
theorem de_cmp {op : CmpOp} {r : R2} {m : D → D → Sto → Option D} (ho : OpR X (compareOp op) r) (hm : OpD X.K r m) (ha : DE X W a f) (hb : DE X W b g) (hb' : behindInMarks op b = false := by rfl) : DE X W (.Compare a [op] [b] pos) (gOp m f g) := by
  refine PEmono (pe_cmpR ho ha hb hb') fun σ H Q h => ?_
  obtain ⟨β, ρ, st, hρ, hs, h⟩ := h
  refine tD_intro hρ hs (Out.sat_bind h) (fun d s1 h1 v β1 H1 e1 S1 r1 => ?_) fun _ _ q => q
  refine tD_intro (hρ.ext e1) S1 (Out.sat_bind h1) (fun d2 s2 h2 v2 β2 H2 e2 S2 r2 => ?_) fun _ _ q => q.ext e1
  obtain ⟨d3, q, p⟩ := oout_sat h2
  exact hm β2 H2 s2 v v2 d d2 d3 Q (Rep.ext e2 _ _ r1) r2 S2 q fun w' H' s' r' => p w' β2 H' ((e1.trans e2).trans (Ext.same s')) (S2.same s') r'
theorem de_ix {r : R2} {m : D → D → Sto → Option D} (ho : IxR X r) (hm : OpD X.K r m) (ha : DE X W a f) (hb : DE X W b g) (hs' : PlainIx b := by exact fun _ _ => rfl) : DE X W (.Subscript a b pos) (gOp m f g) := by
  refine PEmono (pe_ix ho ha hb hs') fun σ H Q h => ?_
  obtain ⟨β, ρ, st, hρ, hs, h⟩ := h
  refine tD_intro hρ hs (Out.sat_bind h) (fun d s1 h1 v β1 H1 e1 S1 r1 => ?_) fun _ _ q => q
  refine tD_intro (hρ.ext e1) S1 (Out.sat_bind h1) (fun d2 s2 h2 v2 β2 H2 e2 S2 r2 => ?_) fun _ _ q => q.ext e1
  obtain ⟨d3, q, p⟩ := oout_sat h2
  exact hm β2 H2 s2 v v2 d d2 d3 Q (Rep.ext e2 _ _ r1) r2 S2 q fun w' H' s' r' => p w' β2 H' ((e1.trans e2).trans (Ext.same s')) (S2.same s') r'
theorem de_un {op : UnaryOp} {r : V → Hp → VK → Prop} {m : D → Sto → Option D} (ho : UnR X (unaryOp op) r) (hm : UnD X.K r m) (ha : DE X W a f) : DE X W (.UnaryOp op a pos) (gUn m f) := by
  refine PEmono (pe_un ho ha) fun σ H Q h => ?_
  obtain ⟨β, ρ, st, hρ, hs, h⟩ := h
  refine tD_intro hρ hs (Out.sat_bind h) (fun d s1 h1 v β1 H1 e1 S1 r1 => ?_) fun _ _ q => q
  obtain ⟨d3, q, p⟩ := oout_sat h1
  exact hm β1 H1 s1 v d d3 Q r1 S1 q fun w' H' s' r' => p w' β1 H' (e1.trans (Ext.same s')) (S1.same s') r'
theorem da_nil : DA X W [] aNil := by
  refine PAmono pa_nil fun σ H Q h => ?_
  obtain ⟨β, ρ, st, hρ, hs, h⟩ := h
  exact h [] β H (Ext.refl β H) hs .nil
theorem da_cons (ha : DE X W e f) (hr : DA X W es fs) (hs : starEach (e :: es) X.env = (false, eval e X.env) :: starEach es X.env := by rfl) : DA X W (e :: es) (aCons f fs) := by
  refine PAmono (pa_cons ha hr hs) fun σ H Q h => ?_
  obtain ⟨β, ρ, st, hρ, hs, h⟩ := h
  refine tD_intro hρ hs (Out.sat_bind h) (fun d s1 h1 v β1 H1 e1 S1 r1 => ?_) fun _ _ q => q
  refine tDA_intro (hρ.ext e1) S1 (Out.sat_bind h1) (fun d2 s2 h2 v2 β2 H2 e2 S2 r2 => ?_) fun _ _ q => q.ext e1
  exact h2 (v :: v2) β2 H2 (e1.trans e2) S2 (.cons (Rep.ext e2 _ _ r1) r2)
theorem de_callB {x : Str} {p : Pos} {id : String} {r : List V → Hp → VK → Prop} {m : List D → Sto → Option D} (hc : CallR X (.builtin id) r) (hm : CallD X.K r m) (hg : Gl X x) (hmg : X.mg x = none) (hv : bootBuiltins x = some (.builtin id)) (ha : DA X W (e :: es) fs) (hn : x ≠ "__name__" := by decide) (hdb : (x == ("__debug__" : Str)) = false := by decide)
    (he : starEach (e :: es) X.env = (false, eval e X.env) :: starEach es X.env := by rfl) (hpl : (backTo pos (starEach es X.env)).any (·.1) = false := by rfl) : DE X W (.Call (.Name x p) (e :: es) [] pos) (gCB m fs) := by
  refine PEmono (pe_callB hc hg hmg hv ha hn hdb he hpl) fun σ H Q h => ?_
  obtain ⟨β, ρ, st, hρ, hs, h⟩ := h
  refine tDA_intro hρ hs (Out.sat_bind h) (fun d s1 h1 v β1 H1 e1 S1 r1 => ?_) fun _ _ q => q
  obtain ⟨d3, q, p⟩ := oout_sat h1
  exact hm β1 H1 s1 v d d3 Q r1 S1 q fun w' H' s' r' => p w' β1 H' (e1.trans (Ext.same s')) (S1.same s') r'
theorem de_callTy {x : Str} {p : Pos} {T : String} {r : List V → Hp → VK → Prop} {m : List D → Sto → Option D} (hc : CallR X (.type T) r) (hm : CallD X.K r m) (hg : Gl X x) (hmg : X.mg x = none) (hv : bootBuiltins x = some (.type T)) (ha : DA X W (e :: es) fs) (hn : x ≠ "__name__" := by decide) (hdb : (x == ("__debug__" : Str)) = false := by decide)
    (he : starEach (e :: es) X.env = (false, eval e X.env) :: starEach es X.env := by rfl) (hpl : (backTo pos (starEach es X.env)).any (·.1) = false := by rfl) : DE X W (.Call (.Name x p) (e :: es) [] pos) (gCB m fs) := by
  refine PEmono (pe_callTy hc hg hmg hv ha hn hdb he hpl) fun σ H Q h => ?_
  obtain ⟨β, ρ, st, hρ, hs, h⟩ := h
  refine tDA_intro hρ hs (Out.sat_bind h) (fun d s1 h1 v β1 H1 e1 S1 r1 => ?_) fun _ _ q => q
  obtain ⟨d3, q, p⟩ := oout_sat h1
  exact hm β1 H1 s1 v d d3 Q r1 S1 q fun w' H' s' r' => p w' β1 H' (e1.trans (Ext.same s')) (S1.same s') r'

/-! ### displays: tuples, lists that are never written, lists that are -/
def gTupD (f : G (List D)) : G D := fun ρ st => (f ρ st).bind fun ds s1 => if ds.length ≤ 1000 then .ok (.tup ds) s1 else .bad
def gLstD (f : G (List D)) : G D := fun ρ st => (f ρ st).bind fun ds s1 => if ds.length ≤ 1000 then .ok (.lst ds) s1 else .bad
def gLstM (f : G (List D)) : G D := fun ρ st => (f ρ st).bind fun ds s1 => if ds.length ≤ 1000 then .ok (.ref s1.length) (s1 ++ [.lst ds]) else .bad
theorem le1000 {n : Nat} (h : n ≤ 1000) : n ≤ sizeLine := Nat.le_of_lt (small1000 h)
theorem de_tup {x1} (h : DA X W es fs) : DE X W (.Tuple es x1 pos) (gTupD fs) := by
  refine PEmono (pe_tup h) fun σ H Q h => ?_
  obtain ⟨β, ρ, st, hρ, hs, h⟩ := h
  refine tDA_intro hρ hs (Out.sat_bind h) (fun d s1 h1 v β1 H1 e1 S1 r1 => ?_) fun _ _ q => q
  split at h1
  · rename_i hz
    have hl := r1.length
    refine ⟨by rw [hl]; exact le1000 hz, fun p hp => ?_⟩
    exact h1 (.ref p) β1 _ (e1.trans (Ext.new hp)) (S1.fresh hp) (.tup (.inl (.inl upd_same)) (Reps.ext (Ext.new hp) _ _ r1) (le1000 hz))
  · exact h1.elim
theorem de_lst (h : DA X W es fs) : DE X W (.List es pos) (gLstD fs) := by
  refine PEmono (pe_lst h) fun σ H Q h => ?_
  obtain ⟨β, ρ, st, hρ, hs, h⟩ := h
  refine tDA_intro hρ hs (Out.sat_bind h) (fun d s1 h1 v β1 H1 e1 S1 r1 => ?_) fun _ _ q => q
  split at h1
  · rename_i hz
    have hl := r1.length
    refine ⟨by rw [hl]; exact le1000 hz, fun p hp => ?_⟩
    exact h1 (.ref p) β1 _ (e1.trans (Ext.new hp)) (S1.fresh hp) (.lst upd_same (S1.nmem hp) (Reps.ext (Ext.new hp) _ _ r1) (le1000 hz))
  · exact h1.elim
/-- a new written thing at p -/
def Bx.add (β : Bx) (p : Addr) : Bx := ⟨β.lo ++ [p], β.pv⟩
theorem Ext.grow {β : Bx} {H : Hp} {p : Addr} {o : HO} (hp : H p = none) : Ext β H (β.add p) (upd H p o) :=
  ⟨⟨[p], rfl, fun q hq => by rw [List.mem_singleton.mp hq]; exact Free.none hp⟩, rfl, fun b u _ h _ => same_new hp _ _ h, fun _ _ h => same_new hp _ _ h, fun _ _ _ h => same_new hp _ _ h, fun _ u h n => ⟨u, same_new hp _ _ h, n⟩, fun _ _ h => same_new hp _ _ h⟩
theorem StoOk.grow {K : PySem.W.Frag} {β : Bx} {H : Hp} {st : Sto} {p : Addr} {o : HO} {so : SO} (S : StoOk K β H st) (hp : H p = none) (r : SORel K (β.add p) (upd H p o) p so) : StoOk K (β.add p) (upd H p o) (st ++ [so]) := by
  have e := Ext.grow (β := β) (o := o) hp
  refine ⟨by simp [Bx.add, S.len], ?_, fun n a u h1 h2 => ?_, fun q hq => let ⟨u, hu, n⟩ := S.priv q hq; ⟨u, same_new hp _ _ hu, n⟩⟩
  · exact List.nodup_append.mpr ⟨S.nd, by simp, fun x hx y hy => by rw [List.mem_singleton.mp hy]; exact fun z => (S.nmem hp).1 (z ▸ hx)⟩
  · have h1 : (β.lo ++ [p])[n]? = Option.some a := h1
    by_cases hn : n < β.lo.length
    · rw [List.getElem?_append_left hn] at h1
      rw [List.getElem?_append_left (by rw [← S.len]; exact hn)] at h2
      have q := S.obj n a u h1 h2
      cases u with
      | lst ds => obtain ⟨xs, h, r⟩ := q; exact ⟨xs, same_new hp _ _ h, Reps.ext e _ _ r⟩
      | dK kvs => obtain ⟨vs, h, l, k, r⟩ := q; exact ⟨vs, same_new hp _ _ h, l, k, Reps.ext e _ _ r⟩
      | tab t => exact ⟨q.1, q.2.ext (same_new hp)⟩
    · have hn' : n = β.lo.length := by
        have := (List.getElem?_eq_some_iff.mp h1).1
        simp at this
        omega
      subst hn'
      rw [List.getElem?_append_right (Nat.le_refl _)] at h1
      rw [S.len, List.getElem?_append_right (Nat.le_refl _)] at h2
      simp at h1 h2
      subst h1 h2
      exact r
theorem de_lstM (h : DA X W es fs) : DE X W (.List es pos) (gLstM fs) := by
  refine PEmono (pe_lst h) fun σ H Q h => ?_
  obtain ⟨β, ρ, st, hρ, hs, h⟩ := h
  refine tDA_intro hρ hs (Out.sat_bind h) (fun d s1 h1 v β1 H1 e1 S1 r1 => ?_) fun _ _ q => q
  split at h1
  · rename_i hz
    have hl := r1.length
    refine ⟨by rw [hl]; exact le1000 hz, fun p hp => ?_⟩
    refine h1 (.ref p) (β1.add p) _ (e1.trans (Ext.grow hp)) (S1.grow hp ⟨v, upd_same, Reps.ext (Ext.grow hp) _ _ r1⟩) (.ref ?_)
    rw [← S1.len]
    simp [Bx.add]
  · exact h1.elim
end
end DL

set_option Elab.async false
set_option linter.all false
set_option maxRecDepth 100000
set_option maxHeartbeats 2000000
namespace DL
open PySem PySem.Spec L2
open PyProof.Rows hiding St
abbrev LIM : Nat := 1000000
theorem leLIM {n : Nat} (h : n ≤ LIM) : n ≤ sizeLine := by rw [sizeLine_eq]; exact Nat.le_trans h (by decide)

/-! ### the operators by data -/
def mAdd : D → D → Sto → Option D
  | .int i, .int j, _ => some (.int (i + j))
  | .str x, .str y, _ => if x.length + y.length ≤ LIM then some (.str (x ++ y)) else none
  | .tup a, .tup b, _ => if a.length + b.length ≤ LIM then some (.tup (a ++ b)) else none
  | .lst a, .lst b, _ => if a.length + b.length ≤ LIM then some (.lst (a ++ b)) else none
  | _, _, _ => none
def mSub : D → D → Sto → Option D
  | .int i, .int j, _ => some (.int (i - j))
  | _, _, _ => none
def mMul : D → D → Sto → Option D
  | .int i, .int j, _ => if -(2 ^ 64) < j ∧ j < 2 ^ 64 then some (.int (i * j)) else none
  | .lst a, .int k, _ => if 0 ≤ k ∧ k ≤ 1000 ∧ a.length ≤ 1000 then some (.lst (List.replicate k.toNat a).flatten) else none
  | _, _, _ => none
def mMod : D → D → Sto → Option D
  | .int i, .int j, _ => if 0 < j then some (.int (i % j)) else none
  | _, _, _ => none
def mFdiv : D → D → Sto → Option D
  | .int i, .int j, _ => if 0 < j ∧ j < 1073741824 then some (.int (i / j)) else none
  | _, _, _ => none
def mPow : D → D → Sto → Option D
  | .int i, .int j, _ => if 0 ≤ j ∧ j ≤ 1000000 ∧ i.natAbs < 2 ^ 64 then some (.int (i ^ j.toNat)) else none
  | _, _, _ => none
def mLt : D → D → Sto → Option D
  | .int i, .int j, _ => some (.bl (decide (i < j)))
  | _, _, _ => none
def mLe : D → D → Sto → Option D
  | .int i, .int j, _ => some (.bl (decide (i ≤ j)))
  | _, _, _ => none
def mGt : D → D → Sto → Option D
  | .int i, .int j, _ => some (.bl (decide (j < i)))
  | _, _, _ => none
def mGe : D → D → Sto → Option D
  | .int i, .int j, _ => some (.bl (decide (j ≤ i)))
  | _, _, _ => none
def eqD (x y : D) : Bool := PyData.eqv x.py y.py
def okD (x : D) : Bool := SeqAt.shaped x.py
def mEq : D → D → Sto → Option D := fun x y _ => if okD x && okD y then some (.bl (eqD x y)) else none
def mNe : D → D → Sto → Option D := fun x y _ => if okD x && okD y then some (.bl (!eqD x y)) else none
def mIs : D → D → Sto → Option D
  | x, .non, _ => match x with
    | .raw _ => none
    | .non => some (.bl true)
    | _ => some (.bl false)
  | .bl a, .bl b, _ => some (.bl (decide (a = b)))
  | _, _, _ => none
def mIsNot : D → D → Sto → Option D
  | x, .non, _ => match x with
    | .raw _ => none
    | .non => some (.bl false)
    | _ => some (.bl true)
  | .bl a, .bl b, _ => some (.bl (!decide (a = b)))
  | _, _, _ => none
def inStr (x y : Str) : Bool := !(Builtin.Str.occurrences y x 0 y.length 1).isEmpty
def mIn (neg : Bool) : D → D → Sto → Option D
  | .str x, .str y, _ => some (.bl (if neg then !inStr x y else inStr x y))
  | x, .tup l, _ => if okD x && okD (.tup l) then some (.bl (if neg then !l.any fun z => eqD z x else l.any fun z => eqD z x)) else none
  | x, .lst l, _ => if okD x && okD (.lst l) then some (.bl (if neg then !l.any fun z => eqD z x else l.any fun z => eqD z x)) else none
  | x, .ro l, _ => if okD x && okD (.ro l) then some (.bl (if neg then !l.any fun z => eqD z x else l.any fun z => eqD z x)) else none
  | _, _, _ => none
theorem pys_map : ∀ l : List D, D.pys l = l.map D.py
  | [] => by simp [D.pys]
  | d :: l => by simp [D.pys, pys_map l]

section
variable {X : Cx} {K : PySem.W.Frag}
/-! #### + -/
abbrev rAddD (K : PySem.W.Frag) : R2 := fun x y H Q => rI0 (fun i j => .int (i + j)) x y H Q ∨ (fun x y H Q => (∃ i j, x = .str i ∧ y = .str j ∧ i.length + j.length ≤ sizeLine ∧ Q (.str (i ++ j)) H) ∨ (fun x y H Q => rCatA K x y H Q ∨ rCat x y H Q) x y H Q) x y H Q
theorem or_add : OpR X (binaryOp .Add) (rAddD X.K) := op_add.or (op_add_str.or (op_catA.or op_cat))
theorem od_add : OpD K (rAddD K) mAdd := by
  intro β H st x y dx dy d Q rx ry S e q
  cases dx <;> cases dy <;> simp only [mAdd, Option.some.injEq, reduceCtorEq] at e
  case int.int i j =>
    cases rx; cases ry; subst e
    exact .inl ⟨_, _, rfl, rfl, q _ _ (Same.refl H) (.int _)⟩
  case str.str a b =>
    cases rx; cases ry
    split at e
    · rename_i hz
      have e := Option.some.inj e
      subst e
      exact .inr (.inl ⟨_, _, rfl, rfl, leLIM hz, q _ _ (Same.refl H) (.str _)⟩)
    · cases e
  case tup.tup a b =>
    cases rx with
    | tup h1 h2 h3 =>
      cases ry with
      | tup g1 g2 g3 =>
        rename_i p xs p' ys
        split at e
        · rename_i hz
          have e := Option.some.inj e
          subst e
          have hl : xs.length + ys.length ≤ LIM := by rw [h2.length, g2.length]; exact hz
          refine .inr (.inr (.inl ⟨_, _, _, _, rfl, rfl, h1, g1, leLIM hl, fun e0 => ?_, fun e0 e1 => ?_, fun e0 e1 p hp => ?_⟩))
          · subst e0
            cases h2
            exact q _ _ (Same.refl H) (.tup g1 g2 g3)
          · subst e1
            cases g2
            simp only [List.append_nil] at q
            exact q _ _ (Same.refl H) (.tup h1 h2 h3)
          · exact q _ _ (same_new hp) (.tup (.inl (.inl upd_same)) (Reps.ext (Ext.new hp) _ _ (h2.append g2)) (by rw [List.length_append]; exact leLIM hz))
        · cases e
  case lst.lst a b =>
    cases rx with
    | lst h1 hn h2 h3 =>
      cases ry with
      | lst g1 gn g2 g3 =>
        rename_i p xs p' ys
        split at e
        · rename_i hz
          have e := Option.some.inj e
          subst e
          have hl : xs.length + ys.length ≤ LIM := by rw [h2.length, g2.length]; exact hz
          refine .inr (.inr (.inr ⟨_, _, _, _, rfl, rfl, h1, g1, leLIM hl, fun p hp => ?_⟩))
          exact q _ _ (same_new hp) (.lst upd_same (S.nmem hp) (Reps.ext (Ext.new hp) _ _ (h2.append g2)) (by rw [List.length_append]; exact leLIM hz))
        · cases e
/-! #### ints -/
theorem od_sub : OpD K (rI0 fun i j => .int (i - j)) mSub := by
  intro β H st x y dx dy d Q rx ry S e q
  cases dx <;> cases dy <;> simp only [mSub, Option.some.injEq, reduceCtorEq] at e
  cases rx; cases ry; subst e
  exact ⟨_, _, rfl, rfl, q _ _ (Same.refl H) (.int _)⟩
theorem od_mod : OpD K (rI (fun _ j => 0 < j) fun i j => .int (i % j)) mMod := by
  intro β H st x y dx dy d Q rx ry S e q
  cases dx <;> cases dy <;> simp only [mMod, Option.some.injEq, reduceCtorEq] at e
  split at e
  · rename_i hz
    have e := Option.some.inj e
    cases rx; cases ry; subst e
    exact ⟨_, _, rfl, rfl, hz, q _ _ (Same.refl H) (.int _)⟩
  · cases e
theorem od_fdiv : OpD K (rI CDiv fun i j => .int (i / j)) mFdiv := by
  intro β H st x y dx dy d Q rx ry S e q
  cases dx <;> cases dy <;> simp only [mFdiv, Option.some.injEq, reduceCtorEq] at e
  split at e
  · rename_i hz
    have e := Option.some.inj e
    cases rx; cases ry; subst e
    exact ⟨_, _, rfl, rfl, hz, q _ _ (Same.refl H) (.int _)⟩
  · cases e
theorem od_pow : OpD K (rI CPow fun i j => .int (i ^ j.toNat)) mPow := by
  intro β H st x y dx dy d Q rx ry S e q
  cases dx <;> cases dy <;> simp only [mPow, Option.some.injEq, reduceCtorEq] at e
  split at e
  · rename_i hz
    have e := Option.some.inj e
    cases rx; cases ry; subst e
    exact ⟨_, _, rfl, rfl, hz, q _ _ (Same.refl H) (.int _)⟩
  · cases e
abbrev rMulD : R2 := fun x y H Q => rI CMul (fun i j => .int (i * j)) x y H Q ∨ rRep x y H Q
theorem or_mul : OpR X (binaryOp .Mult) rMulD := op_mul.or op_rep
theorem lt_od {r : R2} {m : D → D → Sto → Option D} {p : Int → Int → Bool} (hm : ∀ x y st d, m x y st = some d → ∃ i j, x = .int i ∧ y = .int j ∧ d = .bl (p i j)) : OpD K (rI0 fun i j => .bl (p i j)) m := by
  intro β H st x y dx dy d Q rx ry S e q
  obtain ⟨i, j, rfl, rfl, rfl⟩ := hm _ _ _ _ e
  cases rx; cases ry
  exact ⟨_, _, rfl, rfl, q _ _ (Same.refl H) (.bl _)⟩
theorem od_lt : OpD K (rI0 fun i j => .bl (decide (i < j))) mLt := lt_od (r := rI0 fun i j => .bl (decide (i < j))) fun x y st d e => by
  cases x <;> cases y <;> simp only [mLt, Option.some.injEq, reduceCtorEq] at e
  exact ⟨_, _, rfl, rfl, e.symm⟩
theorem od_le : OpD K (rI0 fun i j => .bl (decide (i ≤ j))) mLe := lt_od (r := rI0 fun i j => .bl (decide (i ≤ j))) fun x y st d e => by
  cases x <;> cases y <;> simp only [mLe, Option.some.injEq, reduceCtorEq] at e
  exact ⟨_, _, rfl, rfl, e.symm⟩
theorem od_gt : OpD K (rI0 fun i j => .bl (decide (j < i))) mGt := lt_od (r := rI0 fun i j => .bl (decide (j < i))) fun x y st d e => by
  cases x <;> cases y <;> simp only [mGt, Option.some.injEq, reduceCtorEq] at e
  exact ⟨_, _, rfl, rfl, e.symm⟩
theorem od_ge : OpD K (rI0 fun i j => .bl (decide (j ≤ i))) mGe := lt_od (r := rI0 fun i j => .bl (decide (j ≤ i))) fun x y st d e => by
  cases x <;> cases y <;> simp only [mGe, Option.some.injEq, reduceCtorEq] at e
  exact ⟨_, _, rfl, rfl, e.symm⟩
theorem canLay_of_ok {x : D} (h : okD x = true) : x.py.canLay0 = true := SeqAt.canLay_of_shaped h
theorem od_eq : OpD K (rEqD K) mEq := by
  intro β H st x y dx dy d Q rx ry S e q
  unfold mEq at e
  split at e
  · rename_i hz
    have e := Option.some.inj e
    subst e
    rw [Bool.and_eq_true] at hz
    exact ⟨dx.py, dy.py, Rep.dp _ _ (canLay_of_ok hz.1) rx, Rep.dp _ _ (canLay_of_ok hz.2) ry, hz.1, hz.2, q _ _ (Same.refl H) (.bl _)⟩
  · cases e
theorem od_ne : OpD K (rNeD K) mNe := by
  intro β H st x y dx dy d Q rx ry S e q
  unfold mNe at e
  split at e
  · rename_i hz
    have e := Option.some.inj e
    subst e
    rw [Bool.and_eq_true] at hz
    exact ⟨dx.py, dy.py, Rep.dp _ _ (canLay_of_ok hz.1) rx, Rep.dp _ _ (canLay_of_ok hz.2) ry, hz.1, hz.2, q _ _ (Same.refl H) (.bl _)⟩
  · cases e
/-! #### is -/
def notNon : V → Bool
  | .non => false
  | _ => true
abbrev rIsD : R2 := fun x y H Q => (y = .non ∧ Q (.bl (decide (x = .non))) H) ∨ rIsB x y H Q
abbrev rIsND : R2 := fun x y H Q => (y = .non ∧ Q (.bl (!decide (x = .non))) H) ∨ rNotB x y H Q
theorem or_is : OpR X (compareOp .Is) rIsD := op_isN.or op_isBl
theorem or_isnot : OpR X (compareOp .IsNot) rIsND := op_notN.or op_notBl
theorem od_is : OpD K rIsD mIs := by
  intro β H st x y dx dy d Q rx ry S e q
  cases dy with
  | non =>
    cases ry
    cases dx <;> simp only [mIs, Option.some.injEq, reduceCtorEq] at e
    all_goals (subst e; cases rx; exact .inl ⟨rfl, q _ _ (Same.refl H) (.bl _)⟩)
  | bl b =>
    cases dx <;> simp only [mIs, Option.some.injEq, reduceCtorEq] at e
    cases rx; cases ry
    subst e
    exact .inr ⟨_, _, rfl, rfl, q _ _ (Same.refl H) (.bl _)⟩
  | _ => cases dx <;> simp only [mIs, reduceCtorEq] at e
theorem od_isnot : OpD K rIsND mIsNot := by
  intro β H st x y dx dy d Q rx ry S e q
  cases dy with
  | non =>
    cases ry
    cases dx <;> simp only [mIsNot, Option.some.injEq, reduceCtorEq] at e
    all_goals (subst e; cases rx; exact .inl ⟨rfl, q _ _ (Same.refl H) (.bl _)⟩)
  | bl b =>
    cases dx <;> simp only [mIsNot, Option.some.injEq, reduceCtorEq] at e
    cases rx; cases ry
    subst e
    exact .inr ⟨_, _, rfl, rfl, q _ _ (Same.refl H) (.bl _)⟩
  | _ => cases dx <;> simp only [mIsNot, reduceCtorEq] at e
/-! #### in -/
def rInTD (K : PySem.W.Frag) (neg : Bool) : R2 := fun x y H Q => ∃ d ds, Dp K H x d ∧ Dp K H y (.tuple ds) ∧ SeqAt.shaped d = true ∧ SeqAt.shaped (.tuple ds) = true ∧ Q (.bl (if neg then !ds.any fun z => PyData.eqv z d else ds.any fun z => PyData.eqv z d)) H
theorem room_in_tup {A : Around} {xs : List PyData} {d : PyData} (h : SeqAt.shaped d = true) (hu : A.units + 65 < cLine) : A.units + 1 + min (PyData.depthAll xs) d.depth < cLine := by
  have h1 := SeqAt.depth_of_shaped h
  have h2 : min (PyData.depthAll xs) d.depth ≤ d.depth := Nat.min_le_right _ _
  omega
theorem op_inTD (hu : X.A.units + 65 < cLine) : OpR X (compareOp .In) (rInTD X.K false) := by
  intro pins s σ H x y v u Q I rx ry h
  obtain ⟨d, ds, hd, he, sd, se, q⟩ := h
  obtain ⟨as, r1⟩ := Dp.reads I d x v hd rx
  obtain ⟨bs, r2⟩ := Dp.reads I (.tuple ds) y u he ry
  exact SeqAt.in_tuple_reads r2 r1 (SeqAt.canLay_of_shaped se) (SeqAt.canLay_of_shaped sd) (room_in_tup sd hu) ⟨.bl _, H, I, rfl, q⟩
theorem op_notInTD (hu : X.A.units + 65 < cLine) : OpR X (compareOp .NotIn) (rInTD X.K true) := by
  intro pins s σ H x y v u Q I rx ry h
  obtain ⟨d, ds, hd, he, sd, se, q⟩ := h
  obtain ⟨as, r1⟩ := Dp.reads I d x v hd rx
  obtain ⟨bs, r2⟩ := Dp.reads I (.tuple ds) y u he ry
  exact SeqAt.notIn_tuple_reads r2 r1 (SeqAt.canLay_of_shaped se) (SeqAt.canLay_of_shaped sd) (room_in_tup sd hu) ⟨.bl _, H, I, rfl, q⟩
abbrev rInDD (K : PySem.W.Frag) (neg : Bool) : R2 := fun x y H Q => (∃ i j, x = .str i ∧ y = .str j ∧ Q (.bl (if neg then !inStr i j else inStr i j)) H) ∨ (fun x y H Q => rInTD K neg x y H Q ∨
  (∃ d ds, Dp K H x d ∧ Dp K H y (.list ds) ∧ SeqAt.shaped d = true ∧ SeqAt.shaped (.list ds) = true ∧ Q (.bl (if neg then !ds.any fun z => PyData.eqv z d else ds.any fun z => PyData.eqv z d)) H)) x y H Q
theorem or_in (hu : X.A.units + 65 < cLine) : OpR X (compareOp .In) (rInDD X.K false) := op_in_str.or ((op_inTD hu).or (op_inD hu))
theorem or_notin (hu : X.A.units + 65 < cLine) : OpR X (compareOp .NotIn) (rInDD X.K true) := op_notin_str.or ((op_notInTD hu).or (op_notInD hu))
theorem any_py (l : List D) (x : D) : (D.pys l).any (fun z => PyData.eqv z x.py) = l.any fun z => eqD z x := by
  rw [pys_map, List.any_map]
  rfl
theorem od_in (neg : Bool) : OpD K (rInDD K neg) (mIn neg) := by
  intro β H st x y dx dy d Q rx ry S e q
  have seq : ∀ (l : List D) (c : PyData), c = .tuple (D.pys l) ∨ c = .list (D.pys l) → Dp K H y c → SeqAt.shaped c = true → okD dx = true → d = .bl (if neg then !l.any fun z => eqD z dx else l.any fun z => eqD z dx) → rInDD K neg x y H Q := fun l c hc hy ho hx ed => by
    subst ed
    rcases hc with rfl | rfl
    · exact .inr (.inl ⟨dx.py, D.pys l, Rep.dp _ _ (canLay_of_ok hx) rx, hy, hx, ho, by rw [any_py]; exact q _ _ (Same.refl H) (.bl _)⟩)
    · exact .inr (.inr ⟨dx.py, D.pys l, Rep.dp _ _ (canLay_of_ok hx) rx, hy, hx, ho, by rw [any_py]; exact q _ _ (Same.refl H) (.bl _)⟩)
  cases dy with
  | str b =>
    cases dx <;> simp only [mIn, Option.some.injEq, reduceCtorEq] at e
    cases rx; cases ry; subst e
    exact .inl ⟨_, _, rfl, rfl, q _ _ (Same.refl H) (.bl _)⟩
  | tup l =>
    have e : (if okD dx && okD (.tup l) then some (D.bl (if neg then !l.any fun z => eqD z dx else l.any fun z => eqD z dx)) else none) = some d := by
      cases dx <;> exact e
    split at e
    · rename_i hz
      rw [Bool.and_eq_true] at hz
      have c := Rep.dp _ _ (canLay_of_ok hz.2) ry
      simp only [D.py] at c
      have o2 := hz.2
      simp only [okD, D.py] at o2
      exact seq l _ (.inl rfl) c o2 hz.1 (Option.some.inj e).symm
    · cases e
  | lst l =>
    have e : (if okD dx && okD (.lst l) then some (D.bl (if neg then !l.any fun z => eqD z dx else l.any fun z => eqD z dx)) else none) = some d := by
      cases dx <;> exact e
    split at e
    · rename_i hz
      rw [Bool.and_eq_true] at hz
      have c := Rep.dp _ _ (canLay_of_ok hz.2) ry
      simp only [D.py] at c
      have o2 := hz.2
      simp only [okD, D.py] at o2
      exact seq l _ (.inr rfl) c o2 hz.1 (Option.some.inj e).symm
    · cases e
  | ro l =>
    have e : (if okD dx && okD (.ro l) then some (D.bl (if neg then !l.any fun z => eqD z dx else l.any fun z => eqD z dx)) else none) = some d := by
      cases dx <;> exact e
    split at e
    · rename_i hz
      rw [Bool.and_eq_true] at hz
      have c := Rep.dp _ _ (canLay_of_ok hz.2) ry
      simp only [D.py] at c
      have o2 := hz.2
      simp only [okD, D.py] at o2
      exact seq l _ (.inr rfl) c o2 hz.1 (Option.some.inj e).symm
    · cases e
  | _ => cases dx <;> simp only [mIn, reduceCtorEq] at e
end
end DL

set_option Elab.async false
set_option linter.all false
set_option maxRecDepth 100000
set_option maxHeartbeats 2000000
namespace DL
open PySem PySem.Spec L2
open PyProof.Rows hiding St

theorem reps_flatten {K : PySem.W.Frag} {β : Bx} {H : Hp} {xs : List V} {ds : List D} (r : Reps K β H xs ds) : ∀ k : Nat, Reps K β H (List.replicate k xs).flatten (List.replicate k ds).flatten
  | 0 => .nil
  | k + 1 => by
    rw [List.replicate_succ, List.replicate_succ, List.flatten_cons, List.flatten_cons]
    exact r.append (reps_flatten r k)
theorem len_flatten {α : Type} (xs : List α) : ∀ k : Nat, (List.replicate k xs).flatten.length = xs.length * k
  | 0 => by simp
  | k + 1 => by rw [List.replicate_succ, List.flatten_cons, List.length_append, len_flatten xs k, Nat.mul_succ, Nat.add_comm]
theorem od_mul {K : PySem.W.Frag} : OpD K rMulD mMul := by
  intro β H st x y dx dy d Q rx ry S e q
  cases dx <;> cases dy <;> simp only [mMul, Option.some.injEq, reduceCtorEq] at e
  case int.int i j =>
    split at e
    · rename_i hz
      have e := Option.some.inj e
      cases rx; cases ry; subst e
      exact .inl ⟨_, _, rfl, rfl, .inr hz, q _ _ (Same.refl H) (.int _)⟩
    · cases e
  case lst.int a k =>
    split at e
    · rename_i hz
      have e := Option.some.inj e
      cases ry; subst e
      cases rx with
      | lst h1 hn h2 h3 =>
        rename_i p xs
        have hl := h2.length
        have hk : k.toNat ≤ 1000 := by omega
        have hm : a.length * k.toNat ≤ 1000 * 1000 := Nat.mul_le_mul hz.2.2 hk
        refine .inr ⟨_, _, xs, rfl, rfl, h1, by omega, by omega, by rw [hl]; exact leLIM hm, fun p hp => ?_⟩
        exact q _ _ (same_new hp) (.lst upd_same (S.nmem hp) (Reps.ext (Ext.new hp) _ _ (reps_flatten h2 _)) (by rw [len_flatten]; exact leLIM hm))
    · cases e

/-! ### truth -/
def mTru : D → Sto → Option Bool
  | .non, _ => some false
  | .bl b, _ => some b
  | .int i, _ => some (i != 0)
  | .str x, _ => if x.length ≤ LIM then some ((x.length : Int) != 0) else none
  | .tup l, _ => some (!l.isEmpty)
  | .lst l, _ => some (!l.isEmpty)
  | .ro l, _ => some (!l.isEmpty)
  | .ref n, st => match st[n]? with
    | some (.lst l) => some (!l.isEmpty)
    | some (.dK l) => some (!l.isEmpty)
    | some (.tab _) => none
    | none => none
  | .raw _, _ => none
theorem Reps.empty {K : PySem.W.Frag} {β : Bx} {H : Hp} {vs : List V} {ds : List D} (h : Reps K β H vs ds) : (!ds.isEmpty) = !vs.isEmpty := by cases h <;> rfl
theorem tru_d {K : PySem.W.Frag} {β : Bx} {H : Hp} {st : Sto} {x : V} {d : D} {b : Bool} (r : Rep K β H x d) (S : StoOk K β H st) (e : mTru d st = some b) : TruV K x H b := by
  cases d with
  | non => cases r; exact (Option.some.inj e).symm
  | bl c => cases r; exact (Option.some.inj e).symm
  | int i => cases r; exact (Option.some.inj e).symm
  | str y =>
    cases r
    simp only [mTru] at e
    split at e
    · rename_i hz
      exact ⟨leLIM hz, (Option.some.inj e).symm⟩
    · cases e
  | tup l => cases r with | tup h1 h2 h3 => exact .inr (.inl ⟨_, h1, (Option.some.inj e).symm.trans h2.empty⟩)
  | lst l => cases r with | lst h1 hn h2 h3 => exact .inl ⟨_, SqL.of h1, (Option.some.inj e).symm.trans h2.empty⟩
  | ro l => cases r with | ro h1 h2 h3 => exact .inl ⟨_, h1.sqL, (Option.some.inj e).symm.trans h2.empty⟩
  | ref n =>
    cases r with
    | ref hm =>
      obtain ⟨o, ho, rel⟩ := S.get hm
      simp only [mTru, ho] at e
      cases o with
      | lst l =>
        obtain ⟨xs, h, r⟩ := rel
        exact .inl ⟨_, SqL.of h, (Option.some.inj e).symm.trans r.empty⟩
      | dK l =>
        obtain ⟨vs, h, hl, _⟩ := rel
        refine .inr (.inr ⟨vs, h, (Option.some.inj e).symm.trans ?_⟩)
        cases vs <;> cases l <;> simp_all
      | tab q => cases e
  | raw v => cases e
section
variable {X : Cx} {W : WX} {pos : Pos} {a b c e : Expr} {rest es : List Expr} {f g : G D} {t u : G Bool} {fs : G (List D)}
def gAnd (f g : G D) : G D := fun ρ st => (f ρ st).bind fun d s1 => (oout (mTru d s1) s1).bind fun k s1 => if k then g ρ s1 else .ok d s1
def gOr (f g : G D) : G D := fun ρ st => (f ρ st).bind fun d s1 => (oout (mTru d s1) s1).bind fun k s1 => if k then .ok d s1 else g ρ s1
def gNot (f : G D) : G D := fun ρ st => (f ρ st).bind fun d s1 => (oout (mTru d s1) s1).bind fun k s1 => .ok (.bl !k) s1
def gTr (f : G D) : G Bool := fun ρ st => (f ρ st).bind fun d s1 => oout (mTru d s1) s1
def gIf (t : G Bool) (f g : G D) : G D := fun ρ st => (t ρ st).bind fun k s1 => if k then f ρ s1 else g ρ s1
def gTNot (t : G Bool) : G Bool := fun ρ st => (t ρ st).bind fun k s1 => .ok (!k) s1
def gTAnd (t u : G Bool) : G Bool := fun ρ st => (t ρ st).bind fun k s1 => if k then u ρ s1 else .ok false s1
def gTOr (t u : G Bool) : G Bool := fun ρ st => (t ρ st).bind fun k s1 => if k then .ok true s1 else u ρ s1
theorem de_one {op} (h : DE X W a f) : DE X W (.BoolOp op [a] pos) f := pe_one h
theorem de_and (ha : DE X W a f) (hb : DE X W (.BoolOp .And (b :: rest) pos) g) : DE X W (.BoolOp .And (a :: b :: rest) pos) (gAnd f g) := by
  refine PEmono (pe_andT ha hb) fun σ H Q h => ?_
  obtain ⟨β, ρ, st, hρ, hs, h⟩ := h
  refine tD_intro hρ hs (Out.sat_bind h) (fun d s1 h1 v β1 H1 e1 S1 r1 => ?_) fun _ _ q => q
  obtain ⟨k, q, p⟩ := oout_sat (Out.sat_bind h1)
  refine ⟨k, tru_d r1 S1 q, ?_⟩
  cases k with
  | true => exact ⟨β1, ρ, s1, hρ.ext e1, S1, Out.sat.mono p (fun _ _ z => z.ext e1) fun _ _ z => z.ext e1⟩
  | false => exact p v β1 H1 e1 S1 r1
theorem de_or (ha : DE X W a f) (hb : DE X W (.BoolOp .Or (b :: rest) pos) g) : DE X W (.BoolOp .Or (a :: b :: rest) pos) (gOr f g) := by
  refine PEmono (pe_orT ha hb) fun σ H Q h => ?_
  obtain ⟨β, ρ, st, hρ, hs, h⟩ := h
  refine tD_intro hρ hs (Out.sat_bind h) (fun d s1 h1 v β1 H1 e1 S1 r1 => ?_) fun _ _ q => q
  obtain ⟨k, q, p⟩ := oout_sat (Out.sat_bind h1)
  refine ⟨k, tru_d r1 S1 q, ?_⟩
  cases k with
  | false => exact ⟨β1, ρ, s1, hρ.ext e1, S1, Out.sat.mono p (fun _ _ z => z.ext e1) fun _ _ z => z.ext e1⟩
  | true => exact p v β1 H1 e1 S1 r1
theorem de_not (ha : DE X W a f) : DE X W (.UnaryOp .Not a pos) (gNot f) := by
  refine PEmono (pe_notT ha) fun σ H Q h => ?_
  obtain ⟨β, ρ, st, hρ, hs, h⟩ := h
  refine tD_intro hρ hs (Out.sat_bind h) (fun d s1 h1 v β1 H1 e1 S1 r1 => ?_) fun _ _ q => q
  obtain ⟨k, q, p⟩ := oout_sat (Out.sat_bind h1)
  exact ⟨k, tru_d r1 S1 q, p (.bl !k) β1 H1 e1 S1 (.bl _)⟩
/-- a test that is its value's truth: a name, a call, a subscript .. (he by fun _ => rfl) -/
theorem dt_tr (ha : DE X W a f) (he : ∀ whole, isTrue a X.env whole = (do let v ← whole; standAt a.pos; holding [v] (truthy v)) := by exact fun _ => rfl) : DT X W a (gTr f) := by
  refine PTmono (pt_truth ha he) fun σ H Q h => ?_
  obtain ⟨β, ρ, st, hρ, hs, h⟩ := h
  refine tD_intro hρ hs (Out.sat_bind h) (fun d s1 h1 v β1 H1 e1 S1 r1 => ?_) fun _ _ q => q
  obtain ⟨k, q, p⟩ := oout_sat h1
  exact ⟨k, tru_d r1 S1 q, p β1 H1 e1 S1⟩
def gBl (f : G D) : G Bool := fun ρ st => (f ρ st).bind fun d s1 => match d with
  | .bl k => .ok k s1
  | _ => .bad
theorem gBl_sat {d : D} {s1 : Sto} {P : Bool → Sto → Prop} {E : Exn → Sto → Prop} (h : (match d with | .bl k => Out.ok k s1 | _ => .bad : Out Bool).sat P E) : ∃ k, d = .bl k ∧ P k s1 := by
  cases d <;> first | exact h.elim | exact ⟨_, rfl, h⟩
theorem dt_cmp {op : CmpOp} {r : R2} {m : D → D → Sto → Option D} (ho : OpR X (compareOp op) r) (hm : OpD X.K r m) (ha : DE X W a f) (hb : DE X W b g) (hb' : behindInMarks op b = false := by rfl) : DT X W (.Compare a [op] [b] pos) (gBl (gOp m f g)) := by
  refine PTmono (pt_cmpR ho ha hb hb') fun σ H Q h => ?_
  obtain ⟨β, ρ, st, hρ, hs, h⟩ := h
  have h := Out.sat_bind h
  unfold gOp at h
  refine tD_intro hρ hs (Out.sat_bind h) (fun d s1 h1 v β1 H1 e1 S1 r1 => ?_) fun _ _ q => q
  refine tD_intro (hρ.ext e1) S1 (Out.sat_bind h1) (fun d2 s2 h2 v2 β2 H2 e2 S2 r2 => ?_) fun _ _ q => q.ext e1
  obtain ⟨d3, q, p⟩ := oout_sat h2
  obtain ⟨k, e3, p⟩ := gBl_sat p
  subst e3
  refine hm β2 H2 s2 v v2 d d2 _ _ (Rep.ext e2 _ _ r1) r2 S2 q fun w' H' s' r' => ?_
  cases r'
  exact ⟨k, rfl, p β2 H' ((e1.trans e2).trans (Ext.same s')) (S2.same s')⟩
/-- a < b < c, as a value and as a test -/
def gChain (m m' : D → D → Sto → Option D) (f g h : G D) : G Bool := fun ρ st => (f ρ st).bind fun d s1 => (g ρ s1).bind fun e s2 => (oout (m d e s2) s2).bind fun k s2 => match k with
  | .bl true => (h ρ s2).bind fun e' s3 => (oout (m' e e' s3) s3).bind fun k' s3 => match k' with
    | .bl k => .ok k s3
    | _ => .bad
  | .bl false => .ok false s2
  | _ => .bad
def gB (t : G Bool) : G D := fun ρ st => (t ρ st).bind fun k s1 => .ok (.bl k) s1
theorem chain_core {K : PySem.W.Frag} {mg : Str → Option Value} {σ : L2.St} {H : Hp} {r r' : R2} {m m' : D → D → Sto → Option D} {h : G D} {P : Bool → Sto → Prop} {E : Exn → Sto → Prop} (hm : OpD K r m) (hm' : OpD K r' m') {β : Bx} {ρ : Env} {st : Sto} (hρ : RepEnv K β H σ ρ) (hs : StoOk K β H st)
    (hh : (gChain m m' f g h ρ st).sat P E) {R : V → Hp → Prop} (hP : ∀ k s1, P k s1 → ∀ β' H', Ext β H β' H' → StoOk K β' H' s1 → R (.bl k) H') (hE : ∀ x s1, E x s1 → PostX K mg (fun c d H' => W c d σ H') β H x s1) :
    tChain r r' (tD K mg W f) (tD K mg W g) (tD K mg W h) σ H R := by
  unfold gChain at hh
  refine tD_intro hρ hs (Out.sat_bind hh) (fun d s1 h1 v β1 H1 e1 S1 r1 => ?_) hE
  refine tD_intro (hρ.ext e1) S1 (Out.sat_bind h1) (fun d2 s2 h2 v2 β2 H2 e2 S2 r2 => ?_) fun x s q => (hE x s q).ext e1
  obtain ⟨d3, q, p⟩ := oout_sat (Out.sat_bind h2)
  refine hm β2 H2 s2 v v2 d d2 _ _ (Rep.ext e2 _ _ r1) r2 S2 q fun w' H' s' r' => ?_
  have e12 := (e1.trans e2).trans (Ext.same s')
  cases d3 with
  | bl k =>
    cases r'
    refine ⟨k, rfl, ?_⟩
    cases k with
    | true =>
      refine tD_intro (hρ.ext e12) (S2.same s') (Out.sat_bind p) (fun d4 s4 h4 v4 β4 H4 e4 S4 r4 => ?_) fun x s q => (hE x s q).ext e12
      obtain ⟨d5, q5, p5⟩ := oout_sat (Out.sat_bind h4)
      obtain ⟨k5, e5, p5⟩ := gBl_sat p5
      subst e5
      refine hm' β4 H4 s4 v2 v4 d2 d4 _ _ (Rep.ext ((Ext.same s').trans e4) _ _ r2) r4 S4 q5 fun w5 H5 s5 r5 => ?_
      cases r5
      exact hP _ _ p5 β4 H5 ((e12.trans e4).trans (Ext.same s5)) (S4.same s5)
    | false => exact hP _ _ p β2 H' e12 (S2.same s')
  | _ => exact p.elim
theorem de_chain {op op' : CmpOp} {r r' : R2} {m m' : D → D → Sto → Option D} {h : G D} (ho : OpR X (compareOp op) r) (ho' : OpR X (compareOp op') r') (hm : OpD X.K r m) (hm' : OpD X.K r' m') (ha : DE X W a f) (hb : DE X W b g) (hc : DE X W c h)
    (n1 : lastMarks [op, op'] [b, c] = false := by with_unfolding_all rfl) : DE X W (.Compare a [op, op'] [b, c] pos) (gB (gChain m m' f g h)) := by
  refine PEmono (pe_chain ho ho' ha hb hc n1) fun σ H Q h => ?_
  obtain ⟨β, ρ, st, hρ, hs, h⟩ := h
  exact chain_core hm hm' hρ hs (Out.sat_bind h) (fun k s1 p β' H' e S => p (.bl k) β' H' e S (.bl _)) fun _ _ q => q
theorem dt_chain {op op' : CmpOp} {r r' : R2} {m m' : D → D → Sto → Option D} {h : G D} (ho : OpR X (compareOp op) r) (ho' : OpR X (compareOp op') r') (hm : OpD X.K r m) (hm' : OpD X.K r' m') (ha : DE X W a f) (hb : DE X W b g) (hc : DE X W c h)
    (n1 : lastMarks [op, op'] [b, c] = false := by with_unfolding_all rfl) : DT X W (.Compare a [op, op'] [b, c] pos) (gChain m m' f g h) := by
  refine PTmono (pt_chain ho ho' ha hb hc n1) fun σ H Q h => ?_
  obtain ⟨β, ρ, st, hρ, hs, h⟩ := h
  exact chain_core hm hm' hρ hs h (fun k s1 p β' H' e S => ⟨k, rfl, p β' H' e S⟩) fun _ _ q => q
theorem dt_not (ha : DT X W a t) : DT X W (.UnaryOp .Not a pos) (gTNot t) := by
  refine PTmono (pt_not ha) fun σ H Q h => ?_
  obtain ⟨β, ρ, st, hρ, hs, h⟩ := h
  exact tDT_intro hρ hs (Out.sat_bind h) (fun k s1 h1 β1 H1 e1 S1 => h1 β1 H1 e1 S1) fun _ _ q => q
theorem dw_and1 (ha : DT X W a t) : DW X W (.BoolOp .And [a] pos) t := pw_and1 ha
theorem dw_or1 (ha : DT X W a t) : DW X W (.BoolOp .Or [a] pos) t := pw_or1 ha
theorem dw_and (ha : DT X W a t) (hb : DW X W (.BoolOp .And (b :: rest) pos) u) : DW X W (.BoolOp .And (a :: b :: rest) pos) (gTAnd t u) := by
  refine PWmono (pw_and ha hb) fun σ H Q h => ?_
  obtain ⟨β, ρ, st, hρ, hs, h⟩ := h
  refine tDT_intro hρ hs (Out.sat_bind h) (fun k s1 h1 β1 H1 e1 S1 => ?_) fun _ _ q => q
  cases k with
  | true => exact ⟨β1, ρ, s1, hρ.ext e1, S1, Out.sat.mono h1 (fun _ _ z β2 H2 e2 => z β2 H2 (e1.trans e2)) fun _ _ z => z.ext e1⟩
  | false => exact h1 β1 H1 e1 S1
theorem dw_or (ha : DT X W a t) (hb : DW X W (.BoolOp .Or (b :: rest) pos) u) : DW X W (.BoolOp .Or (a :: b :: rest) pos) (gTOr t u) := by
  refine PWmono (pw_or ha hb) fun σ H Q h => ?_
  obtain ⟨β, ρ, st, hρ, hs, h⟩ := h
  refine tDT_intro hρ hs (Out.sat_bind h) (fun k s1 h1 β1 H1 e1 S1 => ?_) fun _ _ q => q
  cases k with
  | false => exact ⟨β1, ρ, s1, hρ.ext e1, S1, Out.sat.mono h1 (fun _ _ z β2 H2 e2 => z β2 H2 (e1.trans e2)) fun _ _ z => z.ext e1⟩
  | true => exact h1 β1 H1 e1 S1
theorem dt_w (h : DW X W a t) : DT X W a t := h.pt
theorem de_if (hc : DT X W c t) (ha : DE X W a f) (hb : DE X W b g) : DE X W (.IfExp c a b pos) (gIf t f g) := by
  refine PEmono (pe_ifExp hc ha hb) fun σ H Q h => ?_
  obtain ⟨β, ρ, st, hρ, hs, h⟩ := h
  refine tDT_intro hρ hs (Out.sat_bind h) (fun k s1 h1 β1 H1 e1 S1 => ?_) fun _ _ q => q
  cases k with
  | true => exact ⟨β1, ρ, s1, hρ.ext e1, S1, Out.sat.mono h1 (fun _ _ z => z.ext e1) fun _ _ z => z.ext e1⟩
  | false => exact ⟨β1, ρ, s1, hρ.ext e1, S1, Out.sat.mono h1 (fun _ _ z => z.ext e1) fun _ _ z => z.ext e1⟩

/-! ### items, slices -/
def atD (l : List D) (i : Int) : Option D := atI l i
def mIx : D → D → Sto → Option D
  | .tup l, .int i, _ => atI l i
  | .lst l, .int i, _ => atI l i
  | .ro l, .int i, _ => atI l i
  | .ref n, .int i, st => match st[n]? with
    | some (.lst l) => atI l i
    | _ => none
  | .str z, .int i, _ => if z.length ≤ LIM then (atI z.cps.toList i).map fun c => .str ⟨#[c]⟩ else none
  | _, _, _ => none
theorem Reps.atI {K : PySem.W.Frag} {β : Bx} {H : Hp} {vs : List V} {ds : List D} {i : Int} {d : D} (r : Reps K β H vs ds) (h : L2.atI ds i = some d) : ∃ v, L2.atI vs i = some v ∧ Rep K β H v d := by
  unfold L2.atI at h ⊢
  rw [r.length]
  cases e : ixN ds.length i with
  | none => rw [e] at h; cases h
  | some j =>
    rw [e] at h
    exact r.get h
theorem od_ix {K : PySem.W.Frag} : OpD K (rIx K) mIx := by
  intro β H st x y dx dy d Q rx ry S e q
  cases dy <;> try (cases dx <;> simp only [mIx, reduceCtorEq] at e)
  all_goals cases ry
  case tup.int l i => cases rx with | tup h1 h2 h3 => obtain ⟨v, hv, r⟩ := h2.atI e; exact .inr (.inl ⟨_, _, _, v, rfl, rfl, h1, hv, q _ _ (Same.refl H) r⟩)
  case lst.int l i => cases rx with | lst h1 hn h2 h3 => obtain ⟨v, hv, r⟩ := h2.atI e; exact .inl ⟨_, _, _, v, rfl, rfl, SqL.of h1, hv, q _ _ (Same.refl H) r⟩
  case ro.int l i => cases rx with | ro h1 h2 h3 => obtain ⟨v, hv, r⟩ := h2.atI e; exact .inl ⟨_, _, _, v, rfl, rfl, h1.sqL, hv, q _ _ (Same.refl H) r⟩
  case ref.int n i =>
    cases rx with
    | ref hm =>
      obtain ⟨o, ho, rel⟩ := S.get hm
      rw [ho] at e
      cases o with
      | lst l =>
        obtain ⟨xs, h, r⟩ := rel
        obtain ⟨v, hv, r⟩ := r.atI e
        exact .inl ⟨_, _, _, v, rfl, rfl, SqL.of h, hv, q _ _ (Same.refl H) r⟩
      | dK l => cases e
      | tab q => cases e
  case str.int z i =>
    cases rx
    split at e
    · rename_i hz
      rw [Option.map_eq_some_iff] at e
      obtain ⟨c, hc, e⟩ := e
      subst e
      exact .inr (.inr ⟨_, _, c, rfl, rfl, leLIM hz, hc, q _ _ (Same.refl H) (.str _)⟩)
    · cases e
end
end DL

set_option Elab.async false
set_option linter.all false
set_option maxRecDepth 100000
set_option maxHeartbeats 2000000
namespace DL
open PySem PySem.Spec L2
open PyProof.Rows hiding St

/-! ### slices -/
def cutD (xs : List D) (lo hi : Option Int) : List D := (xs.drop (HT.sIx xs.length 0 lo)).take (HT.sIx xs.length xs.length hi - HT.sIx xs.length 0 lo)
def mSl : D → Option Int → Option Int → Sto → Option D
  | .tup l, lo, hi, _ => some (.tup (cutD l lo hi))
  | .lst l, lo, hi, _ => some (.lst (cutD l lo hi))
  | .ro l, lo, hi, _ => some (.lst (cutD l lo hi))
  | .ref n, lo, hi, st => match st[n]? with
    | some (.lst l) => if l.length ≤ LIM then some (.lst (cutD l lo hi)) else none
    | _ => none
  | _, _, _, _ => none
theorem cutD_len (xs : List D) (lo hi : Option Int) : (cutD xs lo hi).length ≤ xs.length := by
  unfold cutD
  rw [List.length_take, List.length_drop]
  omega
theorem Reps.cut {K : PySem.W.Frag} {β : Bx} {H : Hp} {vs : List V} {ds : List D} (r : Reps K β H vs ds) (lo hi : Option Int) : Reps K β H (cutV vs lo hi) (cutD ds lo hi) := by
  unfold cutV cutD
  rw [r.length]
  exact (r.drop _).take _
theorem cutD_whole {xs : List D} {lo hi : Option Int} (h : HT.sIx xs.length 0 lo = 0 ∧ HT.sIx xs.length xs.length hi = xs.length) : cutD xs lo hi = xs := by
  unfold cutD
  rw [h.1, h.2]
  simp
abbrev rSlD (K : PySem.W.Frag) : V → Option Int → Option Int → Hp → VK → Prop := fun x lo hi H Q => rSlA K x lo hi H Q ∨ rSlL K x lo hi H Q
theorem sr_sl {X : Cx} : SlR X (rSlD X.K) := sl_tupA.or sl_list
theorem sd_sl {K : PySem.W.Frag} {β : Bx} {H : Hp} {st : Sto} {x : V} {dx d : D} {lo hi : Option Int} {Q : VK} (rx : Rep K β H x dx) (S : StoOk K β H st) (e : mSl dx lo hi st = some d) (q : ∀ v H', Same H H' → Rep K β H' v d → Q v H') : rSlD K x lo hi H Q := by
  cases dx <;> simp only [mSl, reduceCtorEq, Option.some.injEq] at e
  case tup l =>
    subst e
    cases rx with
    | tup h1 h2 h3 =>
      rename_i p xs
      refine .inl ⟨_, xs, rfl, h1, fun hw => ?_, fun hw p hp => ?_⟩
      · rw [h2.length] at hw
        rw [cutD_whole hw] at q
        exact q _ _ (Same.refl H) (.tup h1 h2 h3)
      · exact q _ _ (same_new hp) (.tup (.inl (.inl upd_same)) (Reps.ext (Ext.new hp) _ _ (h2.cut lo hi)) (Nat.le_trans (cutD_len _ _ _) h3))
  case lst l =>
    subst e
    cases rx with
    | lst h1 hn h2 h3 =>
      exact .inr ⟨_, _, rfl, SqL.of h1, fun p hp => q _ _ (same_new hp) (.lst upd_same (S.nmem hp) (Reps.ext (Ext.new hp) _ _ (h2.cut lo hi)) (Nat.le_trans (cutD_len _ _ _) h3))⟩
  case ro l =>
    subst e
    cases rx with
    | ro h1 h2 h3 =>
      exact .inr ⟨_, _, rfl, h1.sqL, fun p hp => q _ _ (same_new hp) (.lst upd_same (S.nmem hp) (Reps.ext (Ext.new hp) _ _ (h2.cut lo hi)) (Nat.le_trans (cutD_len _ _ _) h3))⟩
  case ref n =>
    cases rx with
    | ref hm =>
      obtain ⟨o, ho, rel⟩ := S.get hm
      rw [ho] at e
      cases o with
      | lst l =>
        obtain ⟨xs, h, r⟩ := rel
        have e : (if l.length ≤ LIM then some (D.lst (cutD l lo hi)) else none) = some d := e
        split at e
        · rename_i hz
          have e := Option.some.inj e
          subst e
          exact .inr ⟨_, _, rfl, SqL.of h, fun p hp => q _ _ (same_new hp) (.lst upd_same (S.nmem hp) (Reps.ext (Ext.new hp) _ _ (r.cut lo hi)) (Nat.le_trans (cutD_len _ _ _) (leLIM hz)))⟩
        · cases e
      | dK l => cases e
      | tab q => cases e
def gOp3 (f : G D) (lo hi : G (Option Int)) : G D := fun ρ st => (f ρ st).bind fun d s1 => (lo ρ s1).bind fun l s2 => (hi ρ s2).bind fun u s3 => oout (mSl d l u s3) s3
def gNone : G (Option Int) := fun _ st => .ok none st
def gSome (f : G D) : G (Option Int) := fun ρ st => (f ρ st).bind fun d s1 => match d with
  | .int i => .ok (some i) s1
  | _ => .bad

def PostO (K : PySem.W.Frag) (Q : Option Int → Hp → Prop) (β : Bx) (H : Hp) : Option Int → Sto → Prop := fun o st' => ∀ β' H', Ext β H β' H' → StoOk K β' H' st' → Q o H'
def tDO (K : PySem.W.Frag) (mg : Str → Option Value) (W : WX) (f : G (Option Int)) : TO := fun σ H Q => ∃ β ρ st, RepEnv K β H σ ρ ∧ StoOk K β H st ∧
  (f ρ st).sat (PostO K Q β H) (PostX K mg (fun c d H' => W c d σ H') β H)
section
variable {X : Cx} {W : WX} {pos p2 : Pos} {a b c e : Expr} {lo hi : Option Expr} {es : List Expr} {f g : G D} {l u : G (Option Int)} {fs : G (List D)}
abbrev DO (X : Cx) (W : WX) (e : Option Expr) (f : G (Option Int)) : Prop := PO X e (tDO X.K X.mg W f)
theorem POmono {X : Cx} {e : Option Expr} {t t' : TO} (h : PO X e t) (i : ∀ σ H Q, t' σ H Q → t σ H Q) : PO X e t' := by
  obtain ⟨r⟩ := h
  exact ⟨fun pins s σ H Q I q => r pins s σ H Q I (i _ _ _ q)⟩
theorem do_none : DO X W none gNone := by
  refine POmono po_none fun σ H Q h => ?_
  obtain ⟨β, ρ, st, hρ, hs, h⟩ := h
  exact h β H (Ext.refl β H) hs
theorem do_some (h : DE X W e f) : DO X W (some e) (gSome f) := by
  refine POmono (po_some h) fun σ H Q h => ?_
  obtain ⟨β, ρ, st, hρ, hs, h⟩ := h
  refine tD_intro hρ hs (Out.sat_bind h) (fun d s1 h1 v β1 H1 e1 S1 r1 => ?_) fun _ _ q => q
  cases d with
  | int i => cases r1; exact ⟨i, rfl, h1 β1 H1 e1 S1⟩
  | _ => exact h1.elim
theorem de_sl (he : DE X W e f) (hl : DO X W lo l) (hu : DO X W hi u) : DE X W (.Subscript e (.Slice lo hi none p2) pos) (gOp3 f l u) := by
  refine PEmono (pe_slice sr_sl he hl hu) fun σ H Q h => ?_
  obtain ⟨β, ρ, st, hρ, hs, h⟩ := h
  refine tD_intro hρ hs (Out.sat_bind h) (fun d s1 h1 v β1 H1 e1 S1 r1 => ?_) fun _ _ q => q
  refine ⟨β1, ρ, s1, hρ.ext e1, S1, (Out.sat_bind h1).mono (fun o s2 h2 β2 H2 e2 S2 => ?_) fun _ _ q => q.ext e1⟩
  refine ⟨β2, ρ, s2, (hρ.ext e1).ext e2, S2, (Out.sat_bind h2).mono (fun o2 s3 h3 β3 H3 e3 S3 => ?_) fun _ _ q => (q.ext e1).ext e2⟩
  obtain ⟨d3, q, p⟩ := oout_sat h3
  exact sd_sl (Rep.ext (e2.trans e3) _ _ r1) S3 q fun w' H' s' r' => p w' β3 H' (((e1.trans e2).trans e3).trans (Ext.same s')) (S3.same s') r'
end

/-! ### built-ins -/
section
variable {K : PySem.W.Frag}
def tyD : D → Sto → Option String
  | .non, _ => some "NoneType"
  | .bl _, _ => some "bool"
  | .int _, _ => some "int"
  | .str _, _ => some "str"
  | .tup _, _ => some "tuple"
  | .lst _, _ => some "list"
  | .ro _, _ => some "list"
  | .ref n, st => match st[n]? with
    | some (.lst _) => some "list"
    | some (.dK _) => some "dict"
    | some (.tab _) => none
    | none => none
  | .raw _, _ => none
theorem tyD_x {β : Bx} {H : Hp} {st : Sto} {x : V} {d : D} {t : String} (r : Rep K β H x d) (S : StoOk K β H st) (e : tyD d st = some t) : TyX K H x (.type t) := by
  cases d with
  | non => cases r; cases e; exact .base .non
  | bl c => cases r; cases e; exact .base (.bl _)
  | int i => cases r; cases e; exact .base (.int _)
  | str y => cases r; cases e; exact .base (.str _)
  | tup l =>
    cases e
    cases r with
    | tup h1 h2 h3 =>
      rcases h1 with (h | ⟨o, h⟩) | ⟨o, its, n, hk, hc, _⟩
      · exact .base (.tup h)
      · exact .fTuple h
      · exact .kTuple hk hc
  | lst l => cases e; cases r with | lst h1 hn h2 h3 => exact .base (.lst h1)
  | ro l =>
    cases e
    cases r with
    | ro h1 h2 h3 =>
      rcases h1 with ⟨o, h⟩ | ⟨o, its, n, hk, hc, _⟩
      · exact .base (.frz h)
      · exact .kList hk hc
  | ref n =>
    cases r with
    | ref hm =>
      obtain ⟨o, ho, rel⟩ := S.get hm
      simp only [tyD, ho] at e
      cases o with
      | lst l => cases e; obtain ⟨xs, h, _⟩ := rel; exact .base (.lst h)
      | dK l => cases e; obtain ⟨xs, h, _⟩ := rel; exact .base (.dK h)
      | tab q => cases e
  | raw v => cases e
/-- isinstance of built-in types -/
def isiB (a b : String) : Option Bool :=
  if a = b then (if a ∈ ["int", "bool", "str", "tuple", "list", "dict"] then some true else none) else if a = "bool" ∧ b = "int" then some true else
  if a ∈ ["NoneType", "int", "bool", "str", "tuple", "list", "dict"] ∧ b ∈ ["int", "bool", "str", "tuple", "list", "dict"] then some false else none
theorem isiB_kit {a b : String} {r : Bool} (h : isiB a b = some r) : kitB a b = some r := by
  unfold isiB at h
  split at h
  · rename_i e
    subst e
    split at h
    · rename_i hm
      cases h
      simp only [List.mem_cons, List.not_mem_nil, or_false] at hm
      rcases hm with rfl | rfl | rfl | rfl | rfl | rfl <;> decide +kernel
    · cases h
  · split at h
    · rename_i e
      obtain ⟨rfl, rfl⟩ := e
      cases h
      decide +kernel
    · split at h
      · rename_i n1 n2 e
        cases h
        obtain ⟨ha, hb⟩ := e
        simp only [List.mem_cons, List.not_mem_nil, or_false] at ha hb
        rcases ha with rfl | rfl | rfl | rfl | rfl | rfl | rfl <;> rcases hb with rfl | rfl | rfl | rfl | rfl | rfl <;> first | exact absurd rfl n1 | exact absurd ⟨rfl, rfl⟩ n2 | decide +kernel
      · cases h
def mIsi : List D → Sto → Option D
  | [d, .raw (.ty b)], st => match tyD d st with
    | some a => (isiB a b).map D.bl
    | none => none
  | _, _ => none
theorem cd_isi : CallD K (rIsi K) mIsi := by
  intro β H st xs ds d Q r S e q
  match ds, r, e with
  | [x, .raw (.ty b)], r, e =>
    obtain ⟨v, w, rfl, r1, r2⟩ := r.two
    simp only [mIsi] at e
    split at e
    · rename_i a ha
      rw [Option.map_eq_some_iff] at e
      obtain ⟨k, hk, e⟩ := e
      subst e
      cases r2
      exact ⟨v, .ty b, _, _, k, rfl, .ty b, tyD_x r1 S ha, kit_ty (isiB_kit hk), q _ _ (Same.refl H) (.bl _)⟩
    · cases e
def mLen : List D → Sto → Option D
  | [.str x], _ => if x.length ≤ LIM then some (.int x.length) else none
  | [.tup l], _ => some (.int l.length)
  | [.lst l], _ => some (.int l.length)
  | [.ro l], _ => some (.int l.length)
  | [.ref n], st => match st[n]? with
    | some (.lst l) => some (.int l.length)
    | _ => none
  | _, _ => none
abbrev rLenD (K : PySem.W.Frag) : List V → Hp → VK → Prop := fun xs H Q => ∃ x n, xs = [x] ∧ LenV K x H n ∧ Q (.int n) H
theorem cd_len : CallD K (rLenD K) mLen := by
  intro β H st xs ds d Q r S e q
  match ds, r, e with
  | [.str x], r, e =>
    obtain ⟨v, rfl, r1⟩ := r.one
    cases r1
    simp only [mLen] at e
    split at e
    · rename_i hz
      cases e
      exact ⟨_, x.length, rfl, ⟨leLIM hz, rfl⟩, q _ _ (Same.refl H) (.int _)⟩
    · cases e
  | [.tup l], r, e =>
    obtain ⟨v, rfl, r1⟩ := r.one
    cases e
    cases r1 with | tup h1 h2 h3 => exact ⟨_, l.length, rfl, .inr ⟨_, h1, h2.length.symm⟩, q _ _ (Same.refl H) (.int _)⟩
  | [.lst l], r, e =>
    obtain ⟨v, rfl, r1⟩ := r.one
    cases e
    cases r1 with | lst h1 hn h2 h3 => exact ⟨_, l.length, rfl, .inl ⟨_, SqL.of h1, h2.length.symm⟩, q _ _ (Same.refl H) (.int _)⟩
  | [.ro l], r, e =>
    obtain ⟨v, rfl, r1⟩ := r.one
    cases e
    cases r1 with | ro h1 h2 h3 => exact ⟨_, l.length, rfl, .inl ⟨_, h1.sqL, h2.length.symm⟩, q _ _ (Same.refl H) (.int _)⟩
  | [.ref n], r, e =>
    obtain ⟨v, rfl, r1⟩ := r.one
    cases r1 with
    | ref hm =>
      obtain ⟨o, ho, rel⟩ := S.get hm
      simp only [mLen, ho] at e
      cases o with
      | lst l =>
        cases e
        obtain ⟨xs, h, r⟩ := rel
        exact ⟨_, l.length, rfl, .inl ⟨_, SqL.of h, r.length.symm⟩, q _ _ (Same.refl H) (.int _)⟩
      | dK l => cases e
      | tab q => cases e
def mTuple : List D → Sto → Option D
  | [.tup l], _ => some (.tup l)
  | [.lst l], _ => some (.tup l)
  | [.ro l], _ => some (.tup l)
  | [.ref n], st => match st[n]? with
    | some (.lst l) => if l.length ≤ LIM then some (.tup l) else none
    | _ => none
  | _, _ => none
abbrev rTupleD (K : PySem.W.Frag) : List V → Hp → VK → Prop := fun xs H Q => ∃ p ys, xs = [.ref p] ∧ ((SqL K H p ys ∧ ∀ l, H l = none → Q (.ref l) (upd H l (.tup ys))) ∨ (SqT K H p ys ∧ Q (.ref p) H))
theorem cd_tuple : CallD K (rTupleD K) mTuple := by
  intro β H st xs ds d Q r S e q
  match ds, r, e with
  | [.tup l], r, e =>
    obtain ⟨v, rfl, r1⟩ := r.one
    cases e
    cases r1 with | tup h1 h2 h3 => exact ⟨_, _, rfl, .inr ⟨h1, q _ _ (Same.refl H) (.tup h1 h2 h3)⟩⟩
  | [.lst l], r, e =>
    obtain ⟨v, rfl, r1⟩ := r.one
    cases e
    cases r1 with | lst h1 hn h2 h3 => exact ⟨_, _, rfl, .inl ⟨SqL.of h1, fun p hp => q _ _ (same_new hp) (.tup (.inl (.inl upd_same)) (Reps.ext (Ext.new hp) _ _ h2) h3)⟩⟩
  | [.ro l], r, e =>
    obtain ⟨v, rfl, r1⟩ := r.one
    cases e
    cases r1 with | ro h1 h2 h3 => exact ⟨_, _, rfl, .inl ⟨h1.sqL, fun p hp => q _ _ (same_new hp) (.tup (.inl (.inl upd_same)) (Reps.ext (Ext.new hp) _ _ h2) h3)⟩⟩
  | [.ref n], r, e =>
    obtain ⟨v, rfl, r1⟩ := r.one
    cases r1 with
    | ref hm =>
      obtain ⟨o, ho, rel⟩ := S.get hm
      simp only [mTuple, ho] at e
      cases o with
      | lst l =>
        simp only at e
        split at e
        · rename_i hz
          cases e
          obtain ⟨xs, h, r⟩ := rel
          exact ⟨_, _, rfl, .inl ⟨SqL.of h, fun p hp => q _ _ (same_new hp) (.tup (.inl (.inl upd_same)) (Reps.ext (Ext.new hp) _ _ r) (leLIM hz))⟩⟩
        · cases e
      | dK l => cases e
      | tab q => cases e
def mList : List D → Sto → Option D
  | [.tup l], _ => some (.lst l)
  | [.lst l], _ => some (.lst l)
  | [.ro l], _ => some (.lst l)
  | [.ref n], st => match st[n]? with
    | some (.lst l) => if l.length ≤ LIM then some (.lst l) else none
    | _ => none
  | _, _ => none
abbrev rListD (K : PySem.W.Frag) : List V → Hp → VK → Prop := fun xs H Q => ∃ p ys, xs = [.ref p] ∧ (SqL K H p ys ∨ SqT K H p ys) ∧ ∀ l, H l = none → Q (.ref l) (upd H l (.lst ys))
theorem cd_list : CallD K (rListD K) mList := by
  intro β H st xs ds d Q r S e q
  have fin : ∀ {p : Addr} {ys : List V} {l : List D}, Reps K β H ys l → l.length ≤ sizeLine → (SqL K H p ys ∨ SqT K H p ys) → d = .lst l → xs = [.ref p] → rListD K xs H Q := fun {p ys l} h2 h3 hh ed ex => by
    subst ed
    exact ⟨p, ys, ex, hh, fun p hp => q _ _ (same_new hp) (.lst upd_same (S.nmem hp) (Reps.ext (Ext.new hp) _ _ h2) h3)⟩
  match ds, r, e with
  | [.tup l], r, e =>
    obtain ⟨v, rfl, r1⟩ := r.one
    cases e
    cases r1 with | tup h1 h2 h3 => exact fin h2 h3 (.inr h1) rfl rfl
  | [.lst l], r, e =>
    obtain ⟨v, rfl, r1⟩ := r.one
    cases e
    cases r1 with | lst h1 hn h2 h3 => exact fin h2 h3 (.inl (SqL.of h1)) rfl rfl
  | [.ro l], r, e =>
    obtain ⟨v, rfl, r1⟩ := r.one
    cases e
    cases r1 with | ro h1 h2 h3 => exact fin h2 h3 (.inl h1.sqL) rfl rfl
  | [.ref n], r, e =>
    obtain ⟨v, rfl, r1⟩ := r.one
    cases r1 with
    | ref hm =>
      obtain ⟨o, ho, rel⟩ := S.get hm
      simp only [mList, ho] at e
      cases o with
      | lst l =>
        simp only at e
        split at e
        · rename_i hz
          cases e
          obtain ⟨xs, h, r⟩ := rel
          exact fin r (leLIM hz) (.inl (SqL.of h)) rfl rfl
        · cases e
      | dK l => cases e
      | tab q => cases e
def bls : List D → Option (List Bool)
  | [] => some []
  | .bl b :: r => (bls r).map (b :: ·)
  | _ => none
theorem bls_reps {β : Bx} {H : Hp} : ∀ {l : List D} {xs : List V} {bs : List Bool}, Reps K β H xs l → bls l = some bs → xs = bs.map V.bl
  | [], _, _, r, e => by cases r; cases e; rfl
  | d :: l, _, _, r, e => by
    cases r with
    | cons r1 r2 =>
      cases d <;> simp only [bls, reduceCtorEq] at e
      rw [Option.map_eq_some_iff] at e
      obtain ⟨bs, hb, rfl⟩ := e
      cases r1
      rw [bls_reps r2 hb]
      rfl
def mAll : List D → Sto → Option D
  | [.lst l], _ => (bls l).map fun bs => .bl (bs.all id)
  | _, _ => none
def mAny : List D → Sto → Option D
  | [.lst l], _ => (bls l).map fun bs => .bl (bs.any id)
  | _, _ => none
theorem cd_all : CallD K (rAll K) mAll := by
  intro β H st xs ds d Q r S e q
  match ds, r, e with
  | [.lst l], r, e =>
    obtain ⟨v, rfl, r1⟩ := r.one
    simp only [mAll, Option.map_eq_some_iff] at e
    obtain ⟨bs, hb, rfl⟩ := e
    cases r1 with | lst h1 hn h2 h3 => exact ⟨_, bs, rfl, by rw [← bls_reps h2 hb]; exact SqL.of h1, q _ _ (Same.refl H) (.bl _)⟩
theorem cd_any : CallD K (rAny K) mAny := by
  intro β H st xs ds d Q r S e q
  match ds, r, e with
  | [.lst l], r, e =>
    obtain ⟨v, rfl, r1⟩ := r.one
    simp only [mAny, Option.map_eq_some_iff] at e
    obtain ⟨bs, hb, rfl⟩ := e
    cases r1 with | lst h1 hn h2 h3 => exact ⟨_, bs, rfl, by rw [← bls_reps h2 hb]; exact SqL.of h1, q _ _ (Same.refl H) (.bl _)⟩
def mInt : List D → Sto → Option D
  | [.int i], _ => some (.int i)
  | [.bl b], _ => some (.int (if b then 1 else 0))
  | _, _ => none
abbrev rIntD : List V → Hp → VK → Prop := fun xs H Q => (∃ i, xs = [.int i] ∧ Q (.int i) H) ∨ ∃ k, xs = [.bl k] ∧ Q (.int (if k then 1 else 0)) H
theorem cd_int : CallD K rIntD mInt := by
  intro β H st xs ds d Q r S e q
  match ds, r, e with
  | [.int i], r, e => obtain ⟨v, rfl, r1⟩ := r.one; cases r1; cases e; exact .inl ⟨_, rfl, q _ _ (Same.refl H) (.int _)⟩
  | [.bl i], r, e => obtain ⟨v, rfl, r1⟩ := r.one; cases r1; cases e; exact .inr ⟨_, rfl, q _ _ (Same.refl H) (.int _)⟩
def mMin2 : List D → Sto → Option D
  | [.int i, .int j], _ => some (.int (if j < i then j else i))
  | _, _ => none
def mMax2 : List D → Sto → Option D
  | [.int i, .int j], _ => some (.int (if j > i then j else i))
  | _, _ => none
theorem cd_min2 : CallD K (fun xs H Q => ∃ i j, xs = [.int i, .int j] ∧ Q (.int (if j < i then j else i)) H) mMin2 := by
  intro β H st xs ds d Q r S e q
  match ds, r, e with
  | [.int i, .int j], r, e => obtain ⟨v, w, rfl, r1, r2⟩ := r.two; cases r1; cases r2; cases e; exact ⟨_, _, rfl, q _ _ (Same.refl H) (.int _)⟩
theorem cd_max2 : CallD K (fun xs H Q => ∃ i j, xs = [.int i, .int j] ∧ Q (.int (if j > i then j else i)) H) mMax2 := by
  intro β H st xs ds d Q r S e q
  match ds, r, e with
  | [.int i, .int j], r, e => obtain ⟨v, w, rfl, r1, r2⟩ := r.two; cases r1; cases r2; cases e; exact ⟨_, _, rfl, q _ _ (Same.refl H) (.int _)⟩
end
end DL

set_option Elab.async false
set_option linter.all false
set_option maxRecDepth 100000
set_option maxHeartbeats 2000000
namespace DL
open PySem PySem.Spec L2
open PyProof.Rows hiding St

/-! ### targets -/
inductive Pat where
  | nm (i : Nat) | tp (ps : List Pat)
mutual
def Pat.tg (K : PySem.W.Frag) : Pat → TG
  | .nm i => gName i
  | .tp ps => gTup K ps.length (Pats.tg K ps)
def Pats.tg (K : PySem.W.Frag) : List Pat → TGs
  | [] => gNil
  | p :: ps => gCons (Pat.tg K p) (Pats.tg K ps)
end
mutual
def Pat.set : Pat → D → Env → Option Env
  | .nm i, d, ρ => some (ρ.set i (some d))
  | .tp ps, .tup ds, ρ => if ds.length = ps.length then Pats.set ps ds ρ else none
  | .tp _, _, _ => none
def Pats.set : List Pat → List D → Env → Option Env
  | [], [], ρ => some ρ
  | p :: ps, d :: ds, ρ => match Pat.set p d ρ with
    | some ρ' => Pats.set ps ds ρ'
    | none => none
  | [], _ :: _, _ => none
  | _ :: _, [], _ => none
end
mutual
def Pat.slots : Pat → List Nat
  | .nm i => [i]
  | .tp ps => Pats.slots ps
def Pats.slots : List Pat → List Nat
  | [] => []
  | p :: ps => Pat.slots p ++ Pats.slots ps
end
section
variable {K : PySem.W.Frag} {β : Bx} {H : Hp}
mutual
theorem pat_ok : ∀ (p : Pat) (v : V) (d : D) (σ : L2.St) (ρ ρ' : Env) (Q : L2.St → Hp → Prop), Rep K β H v d → Pat.set p d ρ = some ρ' → RepEnv K β H σ ρ →
    (∀ σ', RepEnv K β H σ' ρ' → (∀ j, j ∉ p.slots → σ'[j]? = σ[j]?) → σ'.length = σ.length → Q σ' H) → p.tg K v σ H Q
  | .nm i, v, d, σ, ρ, ρ', Q, r, e, hρ, q => by
    simp only [Pat.set, Option.some.injEq] at e
    subst e
    simp only [Pat.tg]
    refine q _ (hρ.set i r) (fun j hj => ?_) (by simp)
    simp only [Pat.slots, List.mem_singleton] at hj
    rw [List.getElem?_set_ne (Ne.symm hj)]
  | .tp ps, v, .tup ds, σ, ρ, ρ', Q, r, e, hρ, q => by
    simp only [Pat.set] at e
    split at e
    · rename_i hl
      cases r with
      | tup h1 h2 h3 =>
        simp only [Pat.tg]
        refine ⟨_, _, rfl, h1, by rw [h2.length]; exact hl, ?_⟩
        exact pats_ok ps _ ds σ ρ ρ' Q h2 e hρ (by simpa only [Pat.slots] using q)
    · cases e
  | .tp ps, v, .non, σ, ρ, ρ', Q, r, e, hρ, q => by simp [Pat.set] at e
  | .tp ps, v, .bl _, σ, ρ, ρ', Q, r, e, hρ, q => by simp [Pat.set] at e
  | .tp ps, v, .int _, σ, ρ, ρ', Q, r, e, hρ, q => by simp [Pat.set] at e
  | .tp ps, v, .str _, σ, ρ, ρ', Q, r, e, hρ, q => by simp [Pat.set] at e
  | .tp ps, v, .lst _, σ, ρ, ρ', Q, r, e, hρ, q => by simp [Pat.set] at e
  | .tp ps, v, .ro _, σ, ρ, ρ', Q, r, e, hρ, q => by simp [Pat.set] at e
  | .tp ps, v, .ref _, σ, ρ, ρ', Q, r, e, hρ, q => by simp [Pat.set] at e
  | .tp ps, v, .raw _, σ, ρ, ρ', Q, r, e, hρ, q => by simp [Pat.set] at e
theorem pats_ok : ∀ (ps : List Pat) (vs : List V) (ds : List D) (σ : L2.St) (ρ ρ' : Env) (Q : L2.St → Hp → Prop), Reps K β H vs ds → Pats.set ps ds ρ = some ρ' → RepEnv K β H σ ρ →
    (∀ σ', RepEnv K β H σ' ρ' → (∀ j, j ∉ Pats.slots ps → σ'[j]? = σ[j]?) → σ'.length = σ.length → Q σ' H) → Pats.tg K ps vs σ H Q
  | [], vs, [], σ, ρ, ρ', Q, r, e, hρ, q => by
    simp only [Pats.set, Option.some.injEq] at e
    subst e
    cases r
    simp only [Pats.tg]
    exact ⟨rfl, q σ hρ (fun _ _ => rfl) rfl⟩
  | p :: ps, vs, d :: ds, σ, ρ, ρ', Q, r, e, hρ, q => by
    simp only [Pats.set] at e
    split at e
    · rename_i ρ1 h1
      cases r with
      | cons r1 r2 =>
        rename_i v vs
        simp only [Pats.tg]
        refine ⟨v, vs, rfl, ?_⟩
        refine pat_ok p v d σ ρ ρ1 _ r1 h1 hρ fun σ1 hρ1 k1 l1 => ?_
        refine pats_ok ps vs ds σ1 ρ1 ρ' Q r2 e hρ1 fun σ2 hρ2 k2 l2 => ?_
        refine q σ2 hρ2 (fun j hj => ?_) (l2.trans l1)
        simp only [Pats.slots, List.mem_append, not_or] at hj
        rw [k2 j hj.2, k1 j hj.1]
    · cases e
  | [], vs, _ :: _, σ, ρ, ρ', Q, r, e, hρ, q => by simp [Pats.set] at e
  | _ :: _, vs, [], σ, ρ, ρ', Q, r, e, hρ, q => by simp [Pats.set] at e
end
end
theorem wipe_get {σ : L2.St} {j : Nat} : ∀ {vs : List Nat}, (wipe σ vs)[j]? = if j ∈ vs then (if j < σ.length then some none else none) else σ[j]?
  | [] => by simp [wipe]
  | v :: vs => by
    unfold wipe
    by_cases h : v = j
    · subst h
      by_cases hl : v < σ.length
      · rw [List.getElem?_set_self (by rw [wipe_length]; exact hl)]
        simp [hl]
      · rw [List.getElem?_eq_none (by rw [List.length_set, wipe_length]; omega)]
        simp [hl]
    · rw [List.getElem?_set_ne h, wipe_get]
      have : j ∈ v :: vs ↔ j ∈ vs := by
        simp only [List.mem_cons]
        exact ⟨fun z => z.elim (fun e => absurd e.symm h) id, .inr⟩
      simp only [this]
theorem wipe_same {σ σ' : L2.St} {vs : List Nat} (hl : σ'.length = σ.length) (h : ∀ j, j ∉ vs → σ'[j]? = σ[j]?) : wipe σ' vs = wipe σ vs := by
  refine List.ext_getElem? fun j => ?_
  rw [wipe_get, wipe_get, hl]
  by_cases hj : j ∈ vs
  · rw [if_pos hj, if_pos hj]
  · rw [if_neg hj, if_neg hj, h j hj]
def wipeE (ρ : Env) : List Nat → Env
  | [] => ρ
  | v :: vs => (wipeE ρ vs).set v none
theorem RepEnv.setN {K : PySem.W.Frag} {β : Bx} {H : Hp} {σ : L2.St} {ρ : Env} (h : RepEnv K β H σ ρ) (i : Nat) (o : Option V) : RepEnv K β H (σ.set i o) (ρ.set i none) := by
  refine ⟨by rw [List.length_set, List.length_set]; exact h.1, fun j d q => ?_⟩
  by_cases hj : i = j
  · subst hj
    have hl : i < ρ.length := by
      have := (List.getElem?_eq_some_iff.mp q).1
      simpa using this
    rw [List.getElem?_set_self hl] at q
    cases Option.some.inj q
  · rw [List.getElem?_set_ne hj] at q
    obtain ⟨w, h1, h2⟩ := h.2 j d q
    exact ⟨w, by rw [List.getElem?_set_ne hj]; exact h1, h2⟩
theorem RepEnv.wipe {K : PySem.W.Frag} {β : Bx} {H : Hp} {σ : L2.St} {ρ : Env} (h : RepEnv K β H σ ρ) : ∀ vs : List Nat, RepEnv K β H (L2.wipe σ vs) (wipeE ρ vs)
  | [] => h
  | v :: vs => (RepEnv.wipe h vs).setN v none
section
variable {X : Cx} {pos : Pos}
abbrev DG (X : Cx) (tg : Expr) (p : Pat) : Prop := PG X tg (p.tg X.K)
abbrev DGs (X : Cx) (tg : List Expr) (p : List Pat) : Prop := PGs X tg (Pats.tg X.K p)
theorem dg_nm {i : Nat} {x : Str} (hN : X.N.Nodup) (hi : X.N[i]? = some x) (hx : Loc X.env.scope x) (hf : X.fn x = true ∨ X.env.scope.names.lookup x = some .local := by first | exact .inl rfl | exact .inr rfl | assumption) : DG X (.Name x pos) (.nm i) := by
  have := pg_name (pos := pos) hN hi hx hf
  exact PGmono this fun v σ H Q h => by simpa only [Pat.tg] using h
theorem dgs_nil : DGs X [] [] := by
  have h := pgs_nil (X := X)
  unfold DGs
  simp only [Pats.tg]
  exact h
theorem dgs_cons {e : Expr} {es : List Expr} {p : Pat} {ps : List Pat} (h1 : DG X e p) (h2 : DGs X es ps) (hs : (assignEach (e :: es) X.env).map (·.2) = assign e X.env :: (assignEach es X.env).map (·.2) := by rfl) : DGs X (e :: es) (p :: ps) := by
  unfold DGs
  simp only [Pats.tg]
  exact pgs_cons h1 h2 hs
theorem dg_tp {es : List Expr} {k : Nat} {ps : List Pat} (hc : X.calm = true) (h : DGs X es ps)
    (hn : (assignEach es X.env).length = ps.length := by rfl) (hst : (assignEach es X.env).findIdx? (·.1) = none := by rfl) : DG X (.Tuple es k pos) (.tp ps) := by
  unfold DG
  simp only [Pat.tg]
  exact pg_tup hc h hn hst
end

/-! ### what is walked -/
structure ItD (K : PySem.W.Frag) (β : Bx) (H : Hp) (J : It) (items : List D) : Prop where
  go : ∀ β' H' i, Mv β H β' H' → i < items.length → J.go i H'
  yld : ∀ β' H' i x H'' d, Mv β H β' H' → items[i]? = some d → J.yld i H' x H'' → Same H' H'' ∧ Rep K β' H'' x d
  stop : ∀ β' H' i, Mv β H β' H' → items.length ≤ i → J.stop i H'
theorem ItD.mv {K : PySem.W.Frag} {β β' : Bx} {H H' : Hp} {J : It} {items : List D} (t : ItD K β H J items) (e : Mv β H β' H') : ItD K β' H' J items :=
  ⟨fun b h i x => t.go b h i (e.trans x), fun b h i x h'' d z => t.yld b h i x h'' d (e.trans z), fun b h i x => t.stop b h i (e.trans x)⟩
def tDI (K : PySem.W.Frag) (mg : Str → Option Value) (W : WX) (f : G (List D)) : TI := fun σ H R => ∃ β ρ st, RepEnv K β H σ ρ ∧ StoOk K β H st ∧
  (f ρ st).sat (fun items st' => ∀ J β' H', Ext β H β' H' → StoOk K β' H' st' → ItD K β' H' J items → items.length ≤ sizeLine → R J H') (PostX K mg (fun c d H' => W c d σ H') β H)
abbrev DI (X : Cx) (W : WX) (tg e : Expr) (f : G (List D)) : Prop := PI X tg e (tDI X.K X.mg W f)
section
variable {K : PySem.W.Frag} {β : Bx} {H : Hp}
theorem itd_l {a : Addr} {xs : List V} {l : List D} (h : ∀ β' H', Mv β H β' H' → SqL K H' a xs) (r : Reps K β H xs l) : ItD K β H (Itl K a) l where
  go := fun β' H' i e hi => ⟨xs, xs[i]'(by rw [r.length]; exact hi), h β' H' e, List.getElem?_eq_getElem _⟩
  yld := fun β' H' i x H'' d e hd hy => by
    obtain ⟨rfl, hy⟩ := hy
    obtain ⟨v, hv, rv⟩ := r.get hd
    have e1 := hy xs (h β' _ e)
    rw [hv] at e1
    have e1 := Option.some.inj e1
    subst e1
    exact ⟨Same.refl _, Rep.move e _ _ rv⟩
  stop := fun β' H' i e hi => ⟨xs, h β' H' e, by rw [r.length]; exact hi⟩
theorem itd_t {a : Addr} {xs : List V} {l : List D} (h : SqT K H a xs) (r : Reps K β H xs l) : ItD K β H (Itt K a) l where
  go := fun β' H' i e hi => ⟨xs, xs[i]'(by rw [r.length]; exact hi), e.sqT h, List.getElem?_eq_getElem _⟩
  yld := fun β' H' i x H'' d e hd hy => by
    obtain ⟨rfl, hy⟩ := hy
    obtain ⟨v, hv, rv⟩ := r.get hd
    have e1 := hy xs (e.sqT h)
    rw [hv] at e1
    have e1 := Option.some.inj e1
    subst e1
    exact ⟨Same.refl _, Rep.move e _ _ rv⟩
  stop := fun β' H' i e hi => ⟨xs, e.sqT h, by rw [r.length]; exact hi⟩
theorem itd_r (lo : Int) (n : Nat) : ItD K β H (Itr lo n) ((List.range n).map fun i : Nat => D.int (lo + (i : Int))) where
  go := fun β' H' i e hi => by show i < n; simpa using hi
  yld := fun β' H' i x H'' d e hd hy => by
    obtain ⟨rfl, rfl⟩ := hy
    rw [List.getElem?_map] at hd
    cases q : (List.range n)[i]? with
    | none => rw [q] at hd; cases hd
    | some j =>
      rw [q] at hd
      have hd := Option.some.inj hd
      have hj : i = j := by
        have := (List.getElem?_eq_some_iff.mp q).2
        simpa using this
      subst hd hj
      exact ⟨Same.refl _, .int _⟩
  stop := fun β' H' i e hi => by show n ≤ i; simpa using hi
def zipD : List D → List D → List D
  | a :: as, b :: bs => .tup [a, b] :: zipD as bs
  | _, _ => []
theorem zipD_len : ∀ a b : List D, (zipD a b).length = min a.length b.length
  | [], b => by simp [zipD]
  | _ :: _, [] => by simp [zipD]
  | a :: as, b :: bs => by simp only [zipD, List.length_cons, zipD_len as bs]; omega
theorem zipD_get : ∀ {a b : List D} {i : Nat} {d : D}, (zipD a b)[i]? = some d → ∃ x y, d = .tup [x, y] ∧ a[i]? = some x ∧ b[i]? = some y
  | [], b, i, d, h => by simp [zipD] at h
  | _ :: _, [], i, d, h => by simp [zipD] at h
  | a :: as, b :: bs, 0, d, h => ⟨a, b, (Option.some.inj (by simpa [zipD] using h)).symm, rfl, rfl⟩
  | a :: as, b :: bs, i + 1, d, h => by
    obtain ⟨x, y, e, h1, h2⟩ := zipD_get (a := as) (b := bs) (i := i) (d := d) (by simpa [zipD] using h)
    exact ⟨x, y, e, by simpa using h1, by simpa using h2⟩
theorem itd_zt {a b : Addr} {xs ys : List V} {l m : List D} (h : SqT K H a xs) (h' : SqT K H b ys) (r : Reps K β H xs l) (r' : Reps K β H ys m) : ItD K β H (RZ.ItzT K a b) (zipD l m) where
  go := fun β' H' i e hi => by
    rw [zipD_len] at hi
    exact ⟨xs, ys, xs[i]'(by rw [r.length]; omega), ys[i]'(by rw [r'.length]; omega), e.sqT h, e.sqT h', List.getElem?_eq_getElem _, List.getElem?_eq_getElem _⟩
  yld := fun β' H' i x H'' d e hd hy => by
    obtain ⟨T, x1, y1, rfl, nT, rfl, f1, f2⟩ := hy
    obtain ⟨dx, dy, rfl, g1, g2⟩ := zipD_get hd
    obtain ⟨v, hv, rv⟩ := r.get g1
    obtain ⟨v', hv', rv'⟩ := r'.get g2
    have e1 := f1 xs (e.sqT h)
    have e2 := f2 ys (e.sqT h')
    rw [hv] at e1
    rw [hv'] at e2
    have e1 := Option.some.inj e1
    have e2 := Option.some.inj e2
    subst e1 e2
    have e3 := e.trans (Ext.new (β := β') (o := .tup [v, v']) nT).mv
    exact ⟨same_new nT, .tup (.inl (.inl upd_same)) (.cons (Rep.move e3 _ _ rv) (.cons (Rep.move e3 _ _ rv') .nil)) (le1000 (by simp))⟩
  stop := fun β' H' i e hi => by
    rw [zipD_len] at hi
    refine ⟨xs, ys, e.sqT h, e.sqT h', ?_⟩
    rw [r.length, r'.length]
    omega
end
def mSeq : D → Sto → Option (List D)
  | .tup l, _ => some l
  | .lst l, _ => some l
  | .ro l, _ => some l
  | _, _ => none
def gSeq (f : G D) : G (List D) := fun ρ st => (f ρ st).bind fun d s1 => oout (mSeq d s1) s1
def intsD (lo : Int) (n : Nat) : List D := (List.range n).map fun i : Nat => D.int (lo + (i : Int))
def mRange1 : List D → Option (List D)
  | [.int n] => if n ≤ 1000000 ∧ -1000000 ≤ n then some (intsD 0 n.toNat) else none
  | _ => none
def mRange2 : List D → Option (List D)
  | [.int a, .int b] => if (-1000000 ≤ a ∧ a ≤ 1000000) ∧ (-1000000 ≤ b ∧ b ≤ 1000000) then some (intsD a (b - a).toNat) else none
  | _ => none
def gRange1 (f : G (List D)) : G (List D) := fun ρ st => (f ρ st).bind fun d s1 => oout (mRange1 d) s1
def gRange2 (f : G (List D)) : G (List D) := fun ρ st => (f ρ st).bind fun d s1 => oout (mRange2 d) s1
def mZip : List D → Option (List D)
  | [.tup a, .tup b] => some (zipD a b)
  | _ => none
def gZip (f : G (List D)) : G (List D) := fun ρ st => (f ρ st).bind fun d s1 => oout (mZip d) s1
section
variable {X : Cx} {W : WX} {tg : Expr}
def iSeq (K : PySem.W.Frag) (tl : TE) : TI := fun σ H R => tl σ H fun x H1 => ∃ a, x = .ref a ∧ ((∃ xs, SqL K H1 a xs ∧ R (Itl K a) H1) ∨ (∃ xs, SqT K H1 a xs ∧ R (Itt K a) H1))
theorem pi_seq {l : Expr} {tl : TE} (hl : PE X l tl) : PI X tg l (iSeq X.K tl) := by
  refine ⟨fun pins s σ H R I h => ?_⟩
  refine thn (hl.run pins s σ H _ I h) fun v s1 ⟨x, H1, I1, r1, q1⟩ => ?_
  obtain ⟨a, e, q1⟩ := q1
  subst e
  cases r1
  have fr : ∀ b, b ∈ [s1.heap.objs.size] → FpOk X pins H1 b := fun b hb => by
    have e : b = s1.heap.objs.size := by simpa using hb
    subst e
    exact I1.fpOk (Nat.le_refl _) (I1.hok.fresh (Nat.le_refl _))
  rcases q1 with ⟨xs, hq, q⟩ | ⟨xs, hq, q⟩
  · obtain ⟨its, rv, p, hz⟩ := I1.list hq
    refine wpAny_pyIter_list p.isList ?_
    exact ⟨s1.heap.objs.size, [s1.heap.objs.size], _, _, H1, rfl, I1.kept (t' := s1.toks) fun b o e => Heap.get?_push_of_some _ e, turn_list a _, ⟨_, Heap.get?_push_size _ rfl, rfl, rfl⟩, fr, q⟩
  · obtain ⟨its, rv, p, hz⟩ := I1.tuple hq
    refine wpAny_pyIter_tuple (show s1.heap.IsTuple a its.toArray from p) ?_
    exact ⟨s1.heap.objs.size, [s1.heap.objs.size], _, _, H1, rfl, I1.kept (t' := s1.toks) fun b o e => Heap.get?_push_of_some _ e, turn_tuple a _, ⟨_, Heap.get?_push_size _ rfl, rfl, rfl⟩, fr, q⟩
theorem di_seq {l : Expr} {f : G D} (h : DE X W l f) : DI X W tg l (gSeq f) := by
  refine PImono (pi_seq h) fun σ H R h => ?_
  obtain ⟨β, ρ, st, hρ, hs, h⟩ := h
  refine tD_intro hρ hs (Out.sat_bind h) (fun d s1 h1 v β1 H1 e1 S1 r1 => ?_) fun _ _ q => q
  obtain ⟨l, q, p⟩ := oout_sat h1
  cases d <;> simp only [mSeq, reduceCtorEq, Option.some.injEq] at q
  case tup m => subst q; cases r1 with | tup h1 h2 h3 => exact ⟨_, rfl, .inr ⟨_, h1, p _ β1 H1 e1 S1 (itd_t h1 h2) h3⟩⟩
  case lst m => subst q; cases r1 with | lst h1 hn h2 h3 => exact ⟨_, rfl, .inl ⟨_, SqL.of h1, p _ β1 H1 e1 S1 (itd_l (fun β' H' e => SqL.of (e.lst _ _ h1 hn).1) h2) h3⟩⟩
  case ro m => subst q; cases r1 with | ro h1 h2 h3 => exact ⟨_, rfl, .inl ⟨_, h1.sqL, p _ β1 H1 e1 S1 (itd_l (fun β' H' e => (e.sqR h1).sqL) h2) h3⟩⟩
theorem di_range1 {a : Expr} {fs : G (List D)} {p pos : Pos} (hg : Gl X "range") (hm : X.mg "range" = none) (ha : DA X W [a] fs) (hs : starEach [a] X.env = [(false, eval a X.env)] := by rfl) : DI X W tg (.Call (.Name "range" p) [a] [] pos) (gRange1 fs) := by
  refine PImono (pi_range1 hg hm ha hs) fun σ H R h => ?_
  obtain ⟨β, ρ, st, hρ, hs, h⟩ := h
  refine tDA_intro hρ hs (Out.sat_bind h) (fun d s1 h1 v β1 H1 e1 S1 r1 => ?_) fun _ _ q => q
  obtain ⟨l, q, p⟩ := oout_sat h1
  unfold mRange1 at q
  split at q
  · rename_i n
    split at q
    · rename_i hz
      cases q
      obtain ⟨v, rfl, r⟩ := r1.one
      cases r
      exact ⟨n, rfl, by omega, by omega, p _ β1 H1 e1 S1 (itd_r 0 n.toNat) (by show ((List.range n.toNat).map fun i : Nat => D.int (0 + (i : Int))).length ≤ _; rw [List.length_map, List.length_range]; exact leLIM (by show n.toNat ≤ 1000000; omega))⟩
    · cases q
  · cases q
theorem di_range2 {a b : Expr} {fs : G (List D)} {p pos : Pos} (hg : Gl X "range") (hm : X.mg "range" = none) (ha : DA X W [a, b] fs) (hs : starEach [a, b] X.env = [(false, eval a X.env), (false, eval b X.env)] := by rfl) (hs2 : starEach [b] X.env = [(false, eval b X.env)] := by rfl) : DI X W tg (.Call (.Name "range" p) [a, b] [] pos) (gRange2 fs) := by
  refine PImono (pi_range2 hg hm ha hs hs2) fun σ H R h => ?_
  obtain ⟨β, ρ, st, hρ, hs, h⟩ := h
  refine tDA_intro hρ hs (Out.sat_bind h) (fun d s1 h1 v β1 H1 e1 S1 r1 => ?_) fun _ _ q => q
  obtain ⟨l, q, p⟩ := oout_sat h1
  unfold mRange2 at q
  split at q
  · rename_i n m
    split at q
    · rename_i hz
      cases q
      obtain ⟨v, w, rfl, r, r'⟩ := r1.two
      cases r
      cases r'
      exact ⟨n, m, rfl, by omega, p _ β1 H1 e1 S1 (itd_r n (m - n).toNat) (by show ((List.range (m - n).toNat).map fun i : Nat => D.int (n + (i : Int))).length ≤ _; rw [List.length_map, List.length_range, sizeLine_eq]; omega)⟩
    · cases q
  · cases q
theorem di_zip {e e2 : Expr} {fs : G (List D)} {elts : List Expr} {kk : Nat} {tpos p pos : Pos} (hg : Gl X "zip") (hm : X.mg "zip" = none) (ha : DA X W [e, e2] fs) (hs : starEach [e, e2] X.env = (false, eval e X.env) :: starEach [e2] X.env := by rfl) (hpl : (backTo pos (starEach [e2] X.env)).any (·.1) = false := by rfl) :
    DI X W (.Tuple elts kk tpos) (.Call (.Name "zip" p) [e, e2] [] pos) (gZip fs) := by
  refine PImono (RZ.pi_zipA hg hm ha hs hpl) fun σ H R h => ?_
  obtain ⟨β, ρ, st, hρ, hs, h⟩ := h
  refine tDA_intro hρ hs (Out.sat_bind h) (fun d s1 h1 v β1 H1 e1 S1 r1 => ?_) fun _ _ q => q
  obtain ⟨l, q, p⟩ := oout_sat h1
  unfold mZip at q
  split at q
  · rename_i a b
    cases q
    obtain ⟨v, w, rfl, r, r'⟩ := r1.two
    cases r with
    | tup h1 h2 h3 =>
      cases r' with
      | tup g1 g2 g3 => exact ⟨_, _, _, _, rfl, .inr ⟨h1, g1, p _ β1 H1 e1 S1 (itd_zt h1 g1 h2 g2) (by rw [zipD_len]; omega)⟩⟩
  · cases q

/-! ### list comprehensions -/
def Out.nox {α : Type} (o : Out α) : Out α := match o with
  | .exn _ _ => .bad
  | o => o
theorem Out.nox_sat {α : Type} {o : Out α} {P : α → Sto → Prop} {E E' : Exn → Sto → Prop} (h : o.nox.sat P E) : o.sat P E' := by
  cases o with
  | ok a st => exact h
  | exn x st => exact h.elim
  | bad => exact h
def compGo (ρ : Env) (p : Pat) (t : G Bool) (e : G D) : List D → Sto → Out (List D)
  | [], st => .ok [] st
  | d :: ds, st => match Pat.set p d ρ with
    | none => .bad
    | some ρ1 => (t ρ1 st).nox.bind fun b s1 => if b then (e ρ1 s1).nox.bind fun y s2 => (compGo ρ p t e ds s2).bind fun ys s3 => .ok (y :: ys) s3 else compGo ρ p t e ds s1
def gComp (vs : List Nat) (f : G (List D)) (p : Pat) (t : G Bool) (e : G D) : G D := fun ρ st => (f ρ st).bind fun items s1 => (compGo (wipeE ρ vs) p t e items s1).bind fun ys s2 => .ok (.lst ys) s2
def gYes : G Bool := fun _ st => .ok true st
abbrev WF : WX := fun _ _ _ _ => False
abbrev DTs (X : Cx) (W : WX) (ifs : List Expr) (f : G Bool) : Prop := PTs X ifs (tDT X.K X.mg W f)
theorem dts_nil : DTs X W [] gYes := by
  have h := pts_nil (X := X)
  obtain ⟨r⟩ := h
  refine ⟨fun pins s σ H Q I q => r pins s σ H Q I ?_⟩
  obtain ⟨β, ρ, st, hρ, hs, h⟩ := q
  exact h β H (Ext.refl β H) hs
theorem dts_one {c : Expr} {t : G Bool} (h : DT X W c t) : DTs X W [c] t := pts_one h
theorem compGo_len {ρ : Env} {p : Pat} {t : G Bool} {e : G D} : ∀ {ds : List D} {st : Sto} {ys : List D} {st' : Sto}, compGo ρ p t e ds st = .ok ys st' → ys.length ≤ ds.length
  | [], st, ys, st', h => by
    simp only [compGo, Out.ok.injEq] at h
    rw [← h.1]
    exact Nat.zero_le _
  | d :: ds, st, ys, st', h => by
    simp only [compGo] at h
    split at h
    · cases h
    · cases q : (t _ st).nox with
      | bad => rw [q] at h; cases h
      | exn x s => rw [q] at h; cases h
      | ok b s1 =>
        rw [q] at h
        simp only [Out.bind_ok] at h
        split at h
        · cases q2 : (e _ s1).nox with
          | bad => rw [q2] at h; cases h
          | exn x s => rw [q2] at h; cases h
          | ok y s2 =>
            rw [q2] at h
            simp only [Out.bind_ok] at h
            cases q3 : compGo ρ p t e ds s2 with
            | bad => rw [q3] at h; cases h
            | exn x s => rw [q3] at h; cases h
            | ok zs s3 =>
              rw [q3] at h
              simp only [Out.bind_ok, Out.ok.injEq] at h
              have := compGo_len q3
              rw [← h.1, List.length_cons, List.length_cons]
              omega
        · have := compGo_len h
          rw [List.length_cons]
          omega
/-- the loop of a comprehension, told by data; fin: what is wanted of the whole list at D', which the machine still holds -/
theorem lc_d {K : PySem.W.Frag} {mg : Str → Option Value} {vs : List Nat} {p : Pat} {t : G Bool} {e : G D} {σ : L2.St} {ρ : Env} {items : List D} {J : It} {β1 : Bx} {H1 : Hp} {s1 : Sto} {R : Addr → Hp → Prop} (hsl : ∀ i ∈ p.slots, i ∈ vs) (hl : items.length ≤ sizeLine)
    (hρ : RepEnv K β1 H1 σ ρ) (S1 : StoOk K β1 H1 s1) (it : ItD K β1 H1 J items) {D' : Addr} (hD : H1 D' = none)
    (fin : (compGo (wipeE ρ vs) p t e items s1).sat (fun ys s2 => ∀ β2 H2 xs, Ext (β1.hold D') (upd H1 D' (.lst xs)) β2 H2 → StoOk K β2 H2 s2 → H2 D' = some (.lst xs) → Reps K β2 H2 xs ys → ys.length ≤ sizeLine → R D' H2) (fun _ _ => False)) :
    ∃ Wi : Nat → Nat → Hp → Prop, (∃ m, Wi 0 m (upd H1 D' (.lst []))) ∧ ∀ i m H, Wi i m H →
      (J.stop i H ∧ R D' H) ∨ (J.go i H ∧ ∃ Nx : Hp → Prop, (∀ H', Nx H' → ∃ m', m' < m ∧ Wi (i + 1) m' H') ∧ ∀ x H', J.yld i H x H' → p.tg K x (L2.wipe σ vs) H' fun σ2 H2 => L2.wipe σ2 vs = L2.wipe σ vs ∧ tDT K mg WF t σ2 H2 fun b H3 =>
        if b = true then tD K mg WF e σ2 H3 fun y H4 => ∃ acc, H4 D' = some (.lst acc) ∧ acc.length < sizeLine ∧ Nx (upd H4 D' (.lst (acc ++ [y]))) else Nx H3) := by
  have mv0 : Mv β1 H1 (β1.hold D') (upd H1 D' (.lst [])) := Mv.hold hD
  -- the invariant: behind i items acc is made, the rest makes the whole
  let Iv : Nat → Hp → Prop := fun i H => i ≤ items.length ∧ ∃ β st acc ad, Ext (β1.hold D') (upd H1 D' (.lst acc)) β H ∧ StoOk K β H st ∧ H D' = some (.lst acc) ∧ Reps K β H acc ad ∧ ad.length ≤ i ∧
    (compGo (wipeE ρ vs) p t e (items.drop i) st).sat (fun ys s2 => ∀ β2 H2 xs, Ext (β1.hold D') (upd H1 D' (.lst xs)) β2 H2 → StoOk K β2 H2 s2 → H2 D' = some (.lst xs) → Reps K β2 H2 xs (ad ++ ys) → (ad ++ ys).length ≤ sizeLine → R D' H2) (fun _ _ => False)
  have inLo : ∀ {β : Bx} {H : Hp} {acc : List V}, Ext (β1.hold D') (upd H1 D' (.lst acc)) β H → D' ∈ β.pv ∧ D' ∉ β.lo := fun {β H acc} ex => by
    refine ⟨by rw [ex.pv]; exact List.mem_cons_self, fun z => ?_⟩
    obtain ⟨new, e1, f⟩ := ex.pre
    rw [e1] at z
    rcases List.mem_append.mp z with z | z
    · exact (S1.nmem hD).1 z
    · obtain ⟨ps, q⟩ := f D' z (.lst acc) (by rw [upd_same])
      cases q
  refine ⟨fun i m H => m = items.length - i ∧ Iv i H, ⟨items.length, by simp, Nat.zero_le _, β1.hold D', s1, [], [], Ext.refl _ _, S1.hold hD, upd_same, .nil, Nat.le_refl _, by simpa using fin⟩, ?_⟩
  rintro i m H ⟨rfl, hi, β, st, acc, ad, ex, S, hA, ra, la, go⟩
  have mvh : Mv β1 H1 β H := (Mv.hold (o := .lst acc) hD).trans ex.mv
  by_cases hlt : i < items.length
  · refine .inr ⟨it.go _ H i mvh hlt, fun H' => Iv (i + 1) H', fun H' hq => ⟨items.length - (i + 1), by omega, rfl, hq⟩, fun x H' hy => ?_⟩
    have hd : items[i]? = some items[i] := List.getElem?_eq_getElem hlt
    obtain ⟨sm, rx⟩ := it.yld _ H i x H' items[i] mvh hd hy
    have hdrop : items.drop i = items[i] :: items.drop (i + 1) := List.drop_eq_getElem_cons hlt
    rw [hdrop] at go
    simp only [compGo] at go
    split at go
    · exact go.elim
    · rename_i ρ1 hset
      have ex2 : Ext (β1.hold D') (upd H1 D' (.lst acc)) β H' := ex.trans (Ext.same sm)
      have mv1 : Mv β1 H1 β H' := (Mv.hold (o := .lst acc) hD).trans ex2.mv
      have hρ' : RepEnv K β H' (L2.wipe σ vs) (wipeE ρ vs) := RepEnv.wipe ⟨hρ.1, fun j d q => by
        obtain ⟨v, h1, h2⟩ := hρ.2 j d q
        exact ⟨v, h1, Rep.move mv1 _ _ h2⟩⟩ vs
      refine pat_ok p x items[i] _ _ ρ1 _ rx hset hρ' fun σ2 hσ2 k2 l2 => ⟨?_, ?_⟩
      · refine (wipe_same l2 fun j hj => k2 j fun z => hj (hsl j z)).trans ?_
        refine wipe_same (by rw [wipe_length]) fun j hj => ?_
        rw [wipe_get, if_neg hj]
      · have S' := S.same sm
        have hA' : H' D' = some (.lst acc) := sm _ _ hA
        refine ⟨β, ρ1, st, hσ2, S', (Out.nox_sat (Out.sat_bind go)).mono (E := fun _ _ => False) (fun b s2 hb β3 H3 e3 S3 => ?_) fun _ _ z => z.elim⟩
        have hA3 : H3 D' = some (.lst acc) := e3.keep _ _ (inLo ex).2 hA' fun ps z => by cases z
        have ex3 := ex2.trans e3
        have ra3 : Reps K β3 H3 acc ad := Reps.ext ((Ext.same sm).trans e3) _ _ ra
        cases b with
        | false => exact ⟨hlt, β3, s2, acc, ad, ex3, S3, hA3, ra3, Nat.le_succ_of_le la, hb⟩
        | true =>
          rw [if_pos rfl] at hb
          refine ⟨β3, ρ1, s2, hσ2.ext e3, S3, (Out.nox_sat (Out.sat_bind hb)).mono (E := fun _ _ => False) (fun y s4 hy4 v4 β4 H4 e4 S4 r4 => ?_) fun _ _ z => z.elim⟩
          have hA4 : H4 D' = some (.lst acc) := e4.keep _ _ (inLo ex3).2 hA3 fun ps z => by cases z
          have ex4 := ex3.trans e4
          have ra4 : Reps K β4 H4 acc ad := Reps.ext e4 _ _ ra3
          have hal : acc.length ≤ i := by rw [ra4.length]; exact la
          refine ⟨acc, hA4, by omega, hlt, β4, s4, acc ++ [v4], ad ++ [y], ?_, S4.poke (inLo ex4).1 (inLo ex4).2 hA4, upd_same, ?_, by rw [List.length_append]; simpa using la, ?_⟩
          · exact Ext.poke hD ex4 hA4
          · exact Reps.move (Mv.poke (inLo ex4).1 hA4) _ _ (ra4.append (.cons r4 .nil))
          · refine (Out.sat_bind hy4).mono (fun ys s5 h5 β5 H5 xs e5 S5 hA5 r5 l5 => ?_) fun _ _ z => z
            exact h5 β5 H5 xs e5 S5 hA5 (by simpa using r5) (by simpa using l5)
  · have e0 : i = items.length := by omega
    subst e0
    refine .inl ⟨it.stop _ H _ mvh (Nat.le_refl _), ?_⟩
    rw [List.drop_length] at go
    exact go β H acc ex S hA (by simpa using ra) (by simp only [List.append_nil]; omega)
end
end DL

set_option Elab.async false
set_option linter.all false
set_option maxRecDepth 100000
set_option maxHeartbeats 2000000
namespace DL
open PySem PySem.Spec L2
open PyProof.Rows hiding St

theorem bind_ex {α β : Type} {o : Out α} {k : α → Sto → Out β} {x : Exn} {s : Sto} (h : o.bind k = .exn x s) : o = .exn x s ∨ ∃ a s1, o = .ok a s1 ∧ k a s1 = .exn x s := by
  cases o with
  | ok a s1 => exact .inr ⟨a, s1, rfl, h⟩
  | exn y s1 => exact .inl (by cases h; rfl)
  | bad => cases h
theorem nox_ex {α : Type} {o : Out α} {x : Exn} {s : Sto} (h : o.nox = .exn x s) : False := by
  cases o <;> cases h
theorem compGo_ex {ρ : Env} {p : Pat} {t : G Bool} {e : G D} {x : Exn} {s : Sto} : ∀ {ds : List D} {st : Sto}, compGo ρ p t e ds st ≠ .exn x s
  | [], st, h => by cases h
  | d :: ds, st, h => by
    simp only [compGo] at h
    split at h
    · cases h
    · rcases bind_ex h with h | ⟨b, s1, _, h⟩
      · exact nox_ex h
      · split at h
        · rcases bind_ex h with h | ⟨y, s2, _, h⟩
          · exact nox_ex h
          · rcases bind_ex h with h | ⟨ys, s3, _, h⟩
            · exact compGo_ex h
            · cases h
        · exact compGo_ex h
theorem sat_noex {α : Type} {o : Out α} {P : α → Sto → Prop} {E E' : Exn → Sto → Prop} (h : o.sat P E) (n : ∀ x s, o ≠ .exn x s) : o.sat P E' := by
  cases o with
  | ok a st => exact h
  | exn x st => exact absurd rfl (n x st)
  | bad => exact h
/-- .. the list is one that is written -/
def gCompM (vs : List Nat) (f : G (List D)) (p : Pat) (t : G Bool) (e : G D) : G D := fun ρ st => (f ρ st).bind fun items s1 => (compGo (wipeE ρ vs) p t e items s1).bind fun ys s2 => .ok (.ref s2.length) (s2 ++ [.lst ys])
section
variable {X : Cx} {W : WX} {pos : Pos} {elt tg iter : Expr} {ifs : List Expr} {scope : Scope} {own : List (Str × Nat)} {fi : G (List D)} {p : Pat} {t : G Bool} {e : G D}
theorem inLo_of {K : PySem.W.Frag} {β1 β : Bx} {H1 H : Hp} {s1 : Sto} {D' : Addr} {ys : List V} (S1 : StoOk K β1 H1 s1) (hD : H1 D' = none) (ex : Ext (β1.hold D') (upd H1 D' (.lst ys)) β H) : D' ∉ β.lo := fun z => by
  obtain ⟨new, e1, f⟩ := ex.pre
  rw [e1] at z
  rcases List.mem_append.mp z with z | z
  · exact (S1.nmem hD).1 z
  · obtain ⟨ps, q⟩ := f D' z (.lst ys) (by rw [upd_same])
    cases q
theorem tLc_of {K : PySem.W.Frag} {mg : Str → Option Value} {vs : List Nat} {σ : L2.St} {H : Hp} {Q : VK} (hsl : ∀ i ∈ p.slots, i ∈ vs) (h : tD K mg W (gComp vs fi p t e) σ H Q) : tLc (tDI K mg W fi) (p.tg K) (tDT K mg WF t) (tD K mg WF e) vs σ H Q := by
  obtain ⟨β, ρ, st, hρ, hs, h⟩ := h
  refine ⟨β, ρ, st, hρ, hs, (Out.sat_bind h).mono (fun items s1 h1 J β1 H1 e1 S1 it hl D' hD => ?_) fun _ _ q => q⟩
  refine lc_d (R := fun D H => Q (.ref D) H) hsl hl (hρ.ext e1) S1 it hD ((sat_noex (Out.sat_bind h1) (fun _ _ => compGo_ex)).mono (fun ys s2 p2 β2 H2 xs ex S2 hA r2 l2 => ?_) fun _ _ z => z)
  have hs' : ∀ a ∈ β1.pv, a ∈ β2.pv := fun a ha => by rw [ex.pv]; exact List.mem_cons_of_mem _ ha
  exact p2 (.ref D') (β2.back β1.pv) H2 (e1.trans (Ext.held hD ex)) (S2.back hs') (.lst hA ⟨show D' ∉ β2.lo from inLo_of S1 hD ex, (S1.nmem hD).2⟩ (Reps.move (Mv.back hs') _ _ r2) l2)
theorem tLc_ofM {K : PySem.W.Frag} {mg : Str → Option Value} {vs : List Nat} {σ : L2.St} {H : Hp} {Q : VK} (hsl : ∀ i ∈ p.slots, i ∈ vs) (h : tD K mg W (gCompM vs fi p t e) σ H Q) : tLc (tDI K mg W fi) (p.tg K) (tDT K mg WF t) (tD K mg WF e) vs σ H Q := by
  obtain ⟨β, ρ, st, hρ, hs, h⟩ := h
  refine ⟨β, ρ, st, hρ, hs, (Out.sat_bind h).mono (fun items s1 h1 J β1 H1 e1 S1 it hl D' hD => ?_) fun _ _ q => q⟩
  refine lc_d (R := fun D H => Q (.ref D) H) hsl hl (hρ.ext e1) S1 it hD ((sat_noex (Out.sat_bind h1) (fun _ _ => compGo_ex)).mono (fun ys s2 p2 β2 H2 xs ex S2 hA r2 l2 => ?_) fun _ _ z => z)
  have hs' : ∀ a ∈ β1.pv, a ∈ β2.pv := fun a ha => by rw [ex.pv]; exact List.mem_cons_of_mem _ ha
  have hb := S2.back hs'
  have nl := inLo_of S1 hD ex
  have np := (S1.nmem hD).2
  have eh := Ext.held hD ex
  -- D' becomes the next of the written things
  have mv : Mv (β2.back β1.pv) H2 ((β2.back β1.pv).add D') H2 → True := fun _ => trivial
  have mvx : Mv β2 H2 ((β2.back β1.pv).add D') H2 := by
    have hp : D' ∈ β2.pv := by rw [ex.pv]; exact List.mem_cons_self
    refine ⟨fun a xs' ha n => ⟨ha, fun z => ?_, fun z => n.2 (hs' a z)⟩, fun _ _ q => q, fun _ _ _ q => q, fun n a q => ?_, fun _ _ q => q⟩
    · rcases List.mem_append.mp z with z | z
      · exact n.1 z
      · rw [List.mem_singleton.mp z] at n
        exact n.2 hp
    · show (β2.lo ++ [D'])[n]? = some a
      rw [List.getElem?_append_left (List.getElem?_eq_some_iff.mp q).1]
      exact q
  have So : StoOk K ((β2.back β1.pv).add D') H2 (s2 ++ [.lst ys]) := by
    refine ⟨by simp [Bx.add, Bx.back, S2.len], ?_, fun n a u q1 q2 => ?_, fun q hq => hb.priv q hq⟩
    · exact List.nodup_append.mpr ⟨S2.nd, by simp, fun x hx y hy => by rw [List.mem_singleton.mp hy]; exact fun z => nl (z ▸ hx)⟩
    · have q1 : (β2.lo ++ [D'])[n]? = some a := q1
      by_cases hn : n < β2.lo.length
      · rw [List.getElem?_append_left hn] at q1
        rw [List.getElem?_append_left (by rw [← S2.len]; exact hn)] at q2
        exact (S2.obj n a u q1 q2).move mvx fun _ z => z
      · have hn' : n = β2.lo.length := by
          have := (List.getElem?_eq_some_iff.mp q1).1
          simp at this
          omega
        subst hn'
        rw [List.getElem?_append_right (Nat.le_refl _)] at q1
        rw [S2.len, List.getElem?_append_right (Nat.le_refl _)] at q2
        simp at q1 q2
        subst q1 q2
        exact ⟨xs, hA, Reps.move mvx _ _ r2⟩
  refine p2 (.ref D') ((β2.back β1.pv).add D') H2 (e1.trans ?_) So (.ref ?_)
  · obtain ⟨new, z1, z2⟩ := eh.pre
    refine ⟨⟨new ++ [D'], ?_, fun q hq => ?_⟩, rfl, eh.keep, eh.tup, eh.frz, eh.dom, eh.cod⟩
    · show β2.lo ++ [D'] = β1.lo ++ (new ++ [D'])
      rw [← List.append_assoc, ← z1]
      rfl
    · rcases List.mem_append.mp hq with hq | hq
      · exact z2 q hq
      · rw [List.mem_singleton.mp hq]; exact Free.none hD
  · show (β2.lo ++ [D'])[s2.length]? = some D'
    rw [← S2.len]
    simp
theorem de_comp (hc : X.calm = true) (hN : X.N.Nodup) (hi : DI X W tg iter fi) (ok : BlkOk X.N X.env.scope scope own) (hsl : ∀ i ∈ p.slots, i ∈ own.map (·.2))
    (hg : ∀ (s : Shared) (H : Hp) (C : Addr) (cl : List (Str × Addr)) (fp : List Addr), DG (X.blk s H scope (compEnvC scope cl C X.env) fp) tg p) (ht : ∀ (s : Shared) (H : Hp) (C : Addr) (cl : List (Str × Addr)) (fp : List Addr), DTs (X.blk s H scope (compEnvC scope cl C X.env) fp) WF ifs t)
    (he : ∀ (s : Shared) (H : Hp) (C : Addr) (cl : List (Str × Addr)) (fp : List Addr), DE (X.blk s H scope (compEnvC scope cl C X.env) fp) WF elt e) (hs : ∀ x, foldedSetIterable iter X.env x = pure x := by intro _; rfl) :
    DE X W (.ListComp elt [⟨tg, iter, ifs, 0⟩] scope pos) (gComp (own.map (·.2)) fi p t e) :=
  PEmono (pe_lc hc hN hi ok hg ht he hs) fun _ _ _ h => tLc_of hsl h
theorem de_compM (hc : X.calm = true) (hN : X.N.Nodup) (hi : DI X W tg iter fi) (ok : BlkOk X.N X.env.scope scope own) (hsl : ∀ i ∈ p.slots, i ∈ own.map (·.2))
    (hg : ∀ (s : Shared) (H : Hp) (C : Addr) (cl : List (Str × Addr)) (fp : List Addr), DG (X.blk s H scope (compEnvC scope cl C X.env) fp) tg p) (ht : ∀ (s : Shared) (H : Hp) (C : Addr) (cl : List (Str × Addr)) (fp : List Addr), DTs (X.blk s H scope (compEnvC scope cl C X.env) fp) WF ifs t)
    (he : ∀ (s : Shared) (H : Hp) (C : Addr) (cl : List (Str × Addr)) (fp : List Addr), DE (X.blk s H scope (compEnvC scope cl C X.env) fp) WF elt e) (hs : ∀ x, foldedSetIterable iter X.env x = pure x := by intro _; rfl) :
    DE X W (.ListComp elt [⟨tg, iter, ifs, 0⟩] scope pos) (gCompM (own.map (·.2)) fi p t e) :=
  PEmono (pe_lc hc hN hi ok hg ht he hs) fun _ _ _ h => tLc_ofM hsl h
end

/-! ### statements -/
theorem xs_x {K : PySem.W.Frag} {mg : Str → Option Value} {W : WX} {β : Bx} {H : Hp} {σ : L2.St} {x : Exn} {st : Sto} (p : PostXS K mg W β H x st) : PostX K mg (fun c d H' => W c d σ H') β H x st := fun c d β' H' e S r => p c d σ β' H' e S r
theorem PostXS.ext {K : PySem.W.Frag} {mg : Str → Option Value} {W : WX} {β β' : Bx} {H H' : Hp} {x : Exn} {st : Sto} (p : PostXS K mg W β H x st) (e : Ext β H β' H') : PostXS K mg W β' H' x st := fun c d σ β2 H2 e2 => p c d σ β2 H2 (e.trans e2)
theorem PostF.ext {K : PySem.W.Frag} {D' : Ends} {β β' : Bx} {H H' : Hp} {f : Fl} {st : Sto} (p : PostF K D' β H f st) (e : Ext β H β' H') : PostF K D' β' H' f st := by
  cases f with
  | nx ρ => exact fun σ β2 H2 e2 => p σ β2 H2 (e.trans e2)
  | rt d => exact fun v β2 H2 e2 => p v β2 H2 (e.trans e2)
  | bk ρ => exact fun σ β2 H2 e2 => p σ β2 H2 (e.trans e2)
  | ct ρ => exact fun σ β2 H2 e2 => p σ β2 H2 (e.trans e2)
def sSet (i : Nat) (f : G D) : G Fl := fun ρ st => (f ρ st).bind fun d s1 => .ok (.nx (ρ.set i (some d))) s1
def sPat (p : Pat) (f : G D) : G Fl := fun ρ st => (f ρ st).bind fun d s1 => match Pat.set p d ρ with
  | some ρ' => .ok (.nx ρ') s1
  | none => .bad
def sPar (i j : Nat) (f : G (List D)) : G Fl := fun ρ st => (f ρ st).bind fun ds s1 => match ds with
  | [a, b] => .ok (.nx ((ρ.set i (some a)).set j (some b))) s1
  | _ => .bad
def sRet (f : G D) : G Fl := fun ρ st => (f ρ st).bind fun d s1 => .ok (.rt d) s1
def sDrop (f : G D) : G Fl := fun ρ st => (f ρ st).bind fun _ s1 => .ok (.nx ρ) s1
def sNext : G Fl := fun ρ st => .ok (.nx ρ) st
def sBreak : G Fl := fun ρ st => .ok (.bk ρ) st
def sCont : G Fl := fun ρ st => .ok (.ct ρ) st
def sBad : G Fl := fun _ _ => .bad
def sSeq (f g : G Fl) : G Fl := fun ρ st => (f ρ st).bind fun r s1 => match r with
  | .nx ρ' => g ρ' s1
  | r => .ok r s1
def sIf (t : G Bool) (f g : G Fl) : G Fl := fun ρ st => (t ρ st).bind fun k s1 => if k then f ρ s1 else g ρ s1
def sAug (m : D → D → Sto → Option D) (i : Nat) (f : G D) : G Fl := fun ρ st => (gVar i ρ st).bind fun x s0 => (f ρ s0).bind fun d s1 => (oout (m x d s1) s1).bind fun z s1 => .ok (.nx (ρ.set i (some z))) s1
def forGo (p : Pat) (b : G Fl) : List D → Env → Sto → Out Fl
  | [], ρ, st => .ok (.nx ρ) st
  | d :: ds, ρ, st => match Pat.set p d ρ with
    | none => .bad
    | some ρ1 => (b ρ1 st).bind fun r s1 => match r with
      | .nx ρ' => forGo p b ds ρ' s1
      | .ct ρ' => forGo p b ds ρ' s1
      | .bk ρ' => .ok (.nx ρ') s1
      | .rt d => .ok (.rt d) s1
def sFor (f : G (List D)) (p : Pat) (b : G Fl) : G Fl := fun ρ st => (f ρ st).bind fun items s1 => forGo p b items ρ s1
section
variable {X : Cx} {W : WX} {pos : Pos} {a b c e tg iter : Expr} {es : List Expr} {f g : G D} {t : G Bool} {fs : G (List D)} {st : Stmt} {rest : List Stmt} {u v : G Fl}
theorem ds_set (i : Nat) {x : Str} {pos' : Pos} (hN : X.N.Nodup) (hi : X.N[i]? = some x) (hx : Loc X.env.scope x) (he : DE X W e f) (hs : swapsWith e (some (.Name x pos')) pos.line X.env = pure false := by rfl)
    (hf : X.fn x = true ∨ X.env.scope.names.lookup x = some .local := by first | exact .inl rfl | exact .inr rfl | assumption) : DS X W (.Assign [.Name x pos'] e pos) (sSet i f) := by
  refine PSmono (ps_set hN hi hx he hs hf) fun D' σ H h => ?_
  obtain ⟨β, ρ, st, hρ, hs, h⟩ := h
  refine tD_intro hρ hs (Out.sat_bind h) (fun d s1 h1 v β1 H1 e1 S1 r1 => ?_) fun _ _ q => xs_x q
  exact h1 _ β1 H1 e1 S1 ((hρ.ext e1).set i r1)
theorem ds_pat {p : Pat} (he : DE X W e f) (hg : DG X tg p) (hs : swapsWithSole [tg] e pos.line X.env = pure false := by rfl) (hw : swappedStores [tg] e X.env = pure none := by rfl)
    (h1 : (assignEach [tg] X.env).map (·.2) = [assign tg X.env] := by rfl) : DS X W (.Assign [tg] e pos) (sPat p f) := by
  refine PSmono (ps_asg he hg hs hw h1) fun D' σ H h => ?_
  obtain ⟨β, ρ, st, hρ, hs, h⟩ := h
  refine tD_intro hρ hs (Out.sat_bind h) (fun d s1 h1 v β1 H1 e1 S1 r1 => ?_) fun _ _ q => xs_x q
  split at h1
  · rename_i ρ' hp
    exact pat_ok p v d σ ρ ρ' _ r1 hp (hρ.ext e1) fun σ' hσ' _ _ => h1 σ' β1 H1 e1 S1 hσ'
  · exact h1.elim
theorem ds_par {i j : Nat} {x y : Str} {px py pt : Pos} {kt k2 pt2} (hc : X.calm = true) (hN : X.N.Nodup) (hi : X.N[i]? = some x) (hj : X.N[j]? = some y) (hij : i ≠ j)
    (hx : X.env.scope.names.lookup x = some .local) (hy : X.env.scope.names.lookup y = some .local) (ha : DA X W [a, b] fs)
    (hw : swappedStores [.Tuple [.Name x px, .Name y py] kt pt] (.Tuple [a, b] k2 pt2) X.env = pure (some [x, y]))
    (hs : swapsWithSole [.Tuple [.Name x px, .Name y py] kt pt] (.Tuple [a, b] k2 pt2) pos.line X.env = pure false := by rfl) :
    DS X W (.Assign [.Tuple [.Name x px, .Name y py] kt pt] (.Tuple [a, b] k2 pt2) pos) (sPar i j fs) := by
  refine PSmono (ps_par hc hN hi hj hij hx hy ha hw hs) fun D' σ H h => ?_
  obtain ⟨β, ρ, st, hρ, hs, h⟩ := h
  refine tDA_intro hρ hs (Out.sat_bind h) (fun ds s1 h1 vs β1 H1 e1 S1 r1 => ?_) fun _ _ q => xs_x q
  split at h1
  · rename_i d1 d2
    obtain ⟨v, w, rfl, q1, q2⟩ := r1.two
    exact ⟨v, w, rfl, h1 _ β1 H1 e1 S1 (((hρ.ext e1).set i q1).set j q2)⟩
  · exact h1.elim
theorem ds_ret (he : DE X W e f) : DS X W (.Return (some e) pos) (sRet f) := by
  refine PSmono (ps_ret he) fun D' σ H h => ?_
  obtain ⟨β, ρ, st, hρ, hs, h⟩ := h
  exact tD_intro hρ hs (Out.sat_bind h) (fun d s1 h1 v β1 H1 e1 S1 r1 => h1 v β1 H1 e1 S1 r1) fun _ _ q => xs_x q
theorem ds_retN : DS X W (.Return none pos) (sRet (gC .non)) := by
  refine PSmono ps_retN fun D' σ H h => ?_
  obtain ⟨β, ρ, st, hρ, hs, h⟩ := h
  exact h .non β H (Ext.refl β H) hs .non
theorem ds_expr (he : DE X W e f) (hs : swapsWith e none pos.line X.env = pure false := by rfl) : DS X W (.Expr e pos) (sDrop f) := by
  refine PSmono (ps_expr he hs) fun D' σ H h => ?_
  obtain ⟨β, ρ, st, hρ, hs, h⟩ := h
  exact tD_intro hρ hs (Out.sat_bind h) (fun d s1 h1 v β1 H1 e1 S1 r1 => h1 σ β1 H1 e1 S1 (hρ.ext e1)) fun _ _ q => xs_x q
theorem ds_next {st : Stmt} (h : PS X st tNext) : DS X W st sNext := PSmono h fun D' σ H h => by
  obtain ⟨β, ρ, st, hρ, hs, h⟩ := h
  exact h σ β H (Ext.refl β H) hs hρ
theorem ds_doc {x j pos'} : DS X W (.Expr (.Constant (.str x) j pos) pos') sNext := ds_next ps_doc
theorem ds_pass : DS X W (.Pass pos) sNext := ds_next ps_pass
theorem ds_break : DS X W (.Break pos) sBreak := PSmono ps_break fun D' σ H h => by
  obtain ⟨β, ρ, st, hρ, hs, h⟩ := h
  exact h σ β H (Ext.refl β H) hs hρ
theorem ds_cont : DS X W (.Continue pos) sCont := PSmono ps_continue fun D' σ H h => by
  obtain ⟨β, ρ, st, hρ, hs, h⟩ := h
  exact h σ β H (Ext.refl β H) hs hρ
/-- what is never come to -/
theorem ds_bad {st : Stmt} : DS X W st sBad := ⟨fun _ _ _ _ _ _ h => by
  obtain ⟨_, _, _, _, _, h⟩ := h
  exact h.elim⟩
theorem dss_bad {st : List Stmt} : DSs X W st sBad := ⟨fun _ _ _ _ _ _ h => by
  obtain ⟨_, _, _, _, _, h⟩ := h
  exact h.elim⟩
theorem dss_nil : DSs X W [] sNext := PSsmono pss_nil fun D' σ H h => by
  obtain ⟨β, ρ, st, hρ, hs, h⟩ := h
  exact h σ β H (Ext.refl β H) hs hρ
theorem dss_one (h : DS X W st u) : DSs X W [st] u := pss_one h
theorem seq_post {K : PySem.W.Frag} {mg : Str → Option Value} {g : G Fl} {D' : Ends} {β : Bx} {H : Hp} {r : Fl} {s1 : Sto} (h : (match r with | .nx ρ' => g ρ' s1 | r => .ok r s1 : Out Fl).sat (PostF K D' β H) (PostXS K mg W β H)) : PostF K { D' with nx := tDS K mg W g D' } β H r s1 := by
  cases r with
  | nx ρ => exact fun σ β' H' e S r => ⟨β', ρ, s1, r, S, h.mono (fun _ _ q => q.ext e) fun _ _ q => q.ext e⟩
  | rt d => exact h
  | bk ρ => exact h
  | ct ρ => exact h
theorem dss_cons (h1 : DS X W st u) (h2 : DSs X W rest v) : DSs X W (st :: rest) (sSeq u v) := by
  refine PSsmono (pss_cons h1 h2) fun D' σ H h => ?_
  obtain ⟨β, ρ, st, hρ, hs, h⟩ := h
  exact ⟨β, ρ, st, hρ, hs, (Out.sat_bind h).mono (fun r s1 q => seq_post q) fun _ _ q => q⟩
theorem ds_if {sa sb : List Stmt} (hc : DT X W c t) (ha : DSs X W sa u) (hb : DSs X W sb v) : DS X W (.If c sa sb pos) (sIf t u v) := by
  refine PSmono (ps_if hc ha hb) fun D' σ H h => ?_
  obtain ⟨β, ρ, st, hρ, hs, h⟩ := h
  refine tDT_intro hρ hs (Out.sat_bind h) (fun k s1 h1 β1 H1 e1 S1 => ?_) fun _ _ q => xs_x q
  cases k with
  | true => exact ⟨β1, ρ, s1, hρ.ext e1, S1, Out.sat.mono h1 (fun _ _ z => z.ext e1) fun _ _ z => z.ext e1⟩
  | false => exact ⟨β1, ρ, s1, hρ.ext e1, S1, Out.sat.mono h1 (fun _ _ z => z.ext e1) fun _ _ z => z.ext e1⟩
theorem ds_for {p : Pat} {fi : G (List D)} {body : List Stmt} (hp : PassesOwn (model X.prog X.w) X.A X.env X.xe) (hc : X.calm = true) (hi : DI X W tg iter fi) (hg : DG X tg p) (hb : DSs X W body u)
    (hs : ∀ x, foldedSetIterable iter X.env x = pure x := by intro _; rfl) : DS X W (.For tg iter body [] pos) (sFor fi p u) := by
  refine PSmono (ps_for hp hc hi hg hb hs) fun D' σ H h => ?_
  obtain ⟨β, ρ, st, hρ, hs, h⟩ := h
  refine ⟨β, ρ, st, hρ, hs, (Out.sat_bind h).mono (fun items s1 h1 J β1 H1 e1 S1 it hl => ?_) fun _ _ q => xs_x q⟩
  let Iv : Nat → L2.St → Hp → Prop := fun i σ H' => i ≤ items.length ∧ ∃ β' ρ' st', Ext β1 H1 β' H' ∧ RepEnv X.K β' H' σ ρ' ∧ StoOk X.K β' H' st' ∧ (forGo p u (items.drop i) ρ' st').sat (PostF X.K D' β H) (PostXS X.K X.mg W β H)
  refine ⟨fun i m σ H => m = items.length - i ∧ Iv i σ H, ⟨items.length, by simp, Nat.zero_le _, β1, ρ, s1, Ext.refl _ _, hρ.ext e1, S1, by simpa using h1⟩, ?_⟩
  rintro i m σ' H' ⟨rfl, hi, β', ρ', st', ex, hρ', S', go⟩
  by_cases hlt : i < items.length
  · refine .inr ⟨it.go _ _ i ex.mv hlt, fun σ H => Iv (i + 1) σ H, fun σ2 H2 hq => ⟨items.length - (i + 1), by omega, rfl, hq⟩, fun x H2 hy => ?_⟩
    have hd : items[i]? = some items[i] := List.getElem?_eq_getElem hlt
    obtain ⟨sm, rx⟩ := it.yld _ _ i x H2 items[i] ex.mv hd hy
    have hdrop : items.drop i = items[i] :: items.drop (i + 1) := List.drop_eq_getElem_cons hlt
    rw [hdrop] at go
    simp only [forGo] at go
    split at go
    · exact go.elim
    · rename_i ρ1 hset
      have ex2 := ex.trans (Ext.same (β := β') sm)
      refine pat_ok p x items[i] _ _ ρ1 _ rx hset (hρ'.ext (Ext.same sm)) fun σ3 hσ3 _ _ => ?_
      refine ⟨β', ρ1, st', hσ3, S'.same sm, (Out.sat_bind go).mono (fun r s4 h4 => ?_) fun _ _ q => q.ext (e1.trans ex2)⟩
      cases r with
      | nx ρ4 => exact fun σ4 β4 H4 e4 S4 r4 => ⟨hlt, β4, ρ4, s4, ex2.trans e4, r4, S4, h4⟩
      | ct ρ4 => exact fun σ4 β4 H4 e4 S4 r4 => ⟨hlt, β4, ρ4, s4, ex2.trans e4, r4, S4, h4⟩
      | bk ρ4 => exact fun σ4 β4 H4 e4 S4 r4 => h4 σ4 β4 H4 ((e1.trans ex2).trans e4) S4 r4
      | rt d => exact fun v4 β4 H4 e4 S4 r4 => h4 v4 β4 H4 ((e1.trans ex2).trans e4) S4 r4
  · have e0 : i = items.length := by omega
    subst e0
    refine .inl ⟨it.stop _ _ _ ex.mv (Nat.le_refl _), ?_⟩
    rw [List.drop_length] at go
    exact go σ' β' H' (e1.trans ex) S' hρ'
end

/-! ### defs -/
def spD (K : PySem.W.Frag) (mg : Str → Option Value) (n : Nat) (m : List D → Sto → Out D) : Sp := fun vs H Q E => ∃ β ds st, Reps K β H vs ds ∧ StoOk K β H st ∧ vs.length = n ∧ (m ds st).sat (PostV K Q β H) (PostX K mg E β H)
abbrev FnD (P : Program) (w : World) (K : PySem.W.Frag) (mg : Str → Option Value) (base : Heap) (k : Nat) (f : Addr) (fd : FuncData) (ps : List Str) (m : List D → Sto → Out D) : Prop := FnOk P w K mg base (L2.CX P w) k f fd ps (spD K mg ps.length m)
def endD (r : Fl) (st : Sto) : Out D := match r with
  | .rt d => .ok d st
  | .nx _ => .ok .non st
  | _ => .bad
def gFun (n : Nat) (g : G Fl) : List D → Sto → Out D := fun ds st => (g (ds.map some ++ List.replicate (n - ds.length) none) st).bind endD
section
variable {P : Program} {w : World} {K : PySem.W.Frag} {mg : Str → Option Value} {base : Heap}
theorem start_env {β : Bx} {H : Hp} {N : List Str} {vs : List V} {ds : List D} (r : Reps K β H vs ds) : RepEnv K β H (L2.start N vs) (ds.map some ++ List.replicate (N.length - ds.length) none) := by
  refine ⟨by simp [L2.start, r.length], fun i d q => ?_⟩
  by_cases hi : i < ds.length
  · rw [List.getElem?_append_left (by simpa using hi), List.getElem?_map] at q
    cases e : ds[i]? with
    | none => rw [e] at q; cases q
    | some d' =>
      rw [e] at q
      have q := Option.some.inj (Option.some.inj q)
      subst q
      obtain ⟨v, hv, rv⟩ := r.get e
      refine ⟨v, ?_, rv⟩
      unfold L2.start
      rw [List.getElem?_append_left (by rw [List.length_map, r.length]; exact hi), List.getElem?_map, hv]
      rfl
  · rw [List.getElem?_append_right (by simpa using hi)] at q
    rw [List.getElem?_replicate] at q
    split at q <;> cases q
abbrev WE' (E : XK) : WX := fun cls d _ H => E cls d H
theorem fnD_of {x qual : Str} {st : Stmt} {f : Addr} {fd : FuncData} {N ps : List Str} {k : Nat} {g : G Fl} (F : Fun K x qual st f fd) (S : FnScope N ps (defScope st))
    (hb : ∀ (cdv : Value) (A : Around) (outer : List PySem.Env) (s : Shared) (H : Hp) (E : XK), Room k (A.deeper (envOfC qual (defScope st) s.heap.objs.size f cdv)) →
      DSs (cxOf (L2.CX P w) P w K mg base N qual (defScope st) f cdv A outer s H E) (WE' E) (defBody st) g) : FnD P w K mg base (k + 1) f fd ps (gFun N.length g) := by
  refine F.okX S (fun vs H Q E h => ?_) (fun cdv A outer s H vs Q E hr h => ?_)
  · obtain ⟨β, ds, st, r, S, hl, h⟩ := h
    exact hl
  · obtain ⟨β, ds, st, r, S, hl, h⟩ := h
    refine ⟨_, hb cdv A outer s H E hr, β, _, st, start_env r, S, (Out.sat_bind h).mono (fun r s1 q => ?_) fun _ _ q => fun c d σ β' H' e S r => q c d β' H' e S r⟩
    cases r with
    | nx ρ => exact fun σ β' H' e S r => q .non β' H' e S .non
    | rt d => exact q
    | bk ρ => exact q.elim
    | ct ρ => exact q.elim
theorem FnD.imp {k : Nat} {f : Addr} {fd : FuncData} {ps : List Str} {m m' : List D → Sto → Out D} (F : FnD P w K mg base k f fd ps m) (h : ∀ ds st, m' ds st ≠ .bad → m ds st = m' ds st) : FnD P w K mg base k f fd ps m' :=
  FnOk.imp F fun vs H Q E ⟨β, ds, st, r, S, hl, q⟩ => ⟨β, ds, st, r, S, hl, by
    rw [h ds st fun z => by rw [z] at q; exact q]
    exact q⟩
end
def gCall (m : List D → Sto → Out D) (f : G (List D)) : G D := fun ρ st => (f ρ st).bind fun ds s1 => m ds s1
section
variable {X : Cx} {W : WX} {pos p : Pos} {x : Str} {e : Expr} {es : List Expr} {fs : G (List D)} {k : Nat} {f : Addr} {fd : FuncData} {ps : List Str} {m : List D → Sto → Out D}
theorem de_call (F : FnD X.prog X.w X.K X.mg X.base k f fd ps m) (tk : Takes X W) (hr : Room k X.A) (hg : Gl X x) (hm : X.mg x = some (.ref f)) (hk : PySem.W.keepIn X.K (.ref f) = true) (hb : Binds X.K fd ps []) (hl : (e :: es).length = ps.length)
    (ha : DA X W (e :: es) fs) (hdb : (x == ("__debug__" : Str)) = false := by decide) (he : starEach (e :: es) X.env = (false, eval e X.env) :: starEach es X.env := by rfl) (hpl : (backTo pos (starEach es X.env)).any (·.1) = false := by rfl) (hfl : ∀ ρ st ds s1, fs ρ st = .ok ds s1 → ds.length = (e :: es).length) :
    DE X W (.Call (.Name x p) (e :: es) [] pos) (gCall m fs) := by
  refine PEmono (pe_callS (E := fun σ => WE W σ) F hr hg hm hk hb (fun σ => passAt tk σ) ha hdb he hpl) fun σ H Q h => ?_
  obtain ⟨β, ρ, st, hρ, hs, h⟩ := h
  have h := Out.sat_bind h
  cases q : fs ρ st with
  | bad => rw [q] at h; exact h.elim
  | exn x s => exact ⟨β, ρ, st, hρ, hs, by rw [q] at h ⊢; exact h⟩
  | ok ds s1 =>
    refine ⟨β, ρ, st, hρ, hs, ?_⟩
    rw [q] at h ⊢
    refine fun vs β1 H1 e1 S1 r1 => ⟨β1, ds, s1, r1, S1, by rw [r1.length, hfl _ _ _ _ q, hl], Out.sat.mono h (fun _ _ z => z.ext e1) fun _ _ z => z.ext e1⟩
end
end DL

set_option Elab.async false
set_option linter.all false
set_option maxRecDepth 100000
set_option maxHeartbeats 2000000
namespace DL
open PySem PySem.Spec L2
open PyProof.Rows hiding St
theorem hu65 {k : Nat} {A : Around} (r : Room k A) : A.units + 65 < cLine := by have := r.un; omega
theorem hu64 {k : Nat} {A : Around} (r : Room k A) : A.units + 64 < cLine := by have := r.un; omega
theorem hu1 {k : Nat} {A : Around} (r : Room k A) : A.units + 1 < cLine := by have := r.un; omega
abbrev AL (g : G (List D)) (n : Nat) : Prop := ∀ ρ st ds s1, g ρ st = .ok ds s1 → ds.length = n
theorem al_nil : AL aNil 0 := fun ρ st ds s1 h => by
  cases h
  rfl
theorem al_cons {f : G D} {g : G (List D)} {n : Nat} (h : AL g n) : AL (aCons f g) (n + 1) := fun ρ st ds s1 e => by
  unfold aCons at e
  cases q : f ρ st with
  | bad => rw [q] at e; cases e
  | exn x s => rw [q] at e; cases e
  | ok d s =>
    rw [q] at e
    simp only [Out.bind_ok] at e
    cases q2 : g ρ s with
    | bad => rw [q2] at e; cases e
    | exn x s => rw [q2] at e; cases e
    | ok ds' s' =>
      rw [q2] at e
      simp only [Out.bind_ok, Out.ok.injEq] at e
      rw [← e.1, List.length_cons, h _ _ _ _ q2]
section
variable {X : Cx} {W : WX}
/-- name = [..] on one line, the name a local -/
theorem ds_setLc (i : Nat) {y : Str} {py : Pos} {elt tg iter : Expr} {ifs : List Expr} {scope : Scope} {own : List (Str × Nat)} {pos spos : Pos} {fi : G (List D)} {p : Pat} {t : G Bool} {e : G D} (hc : X.calm = true) (hN : X.N.Nodup) (hy : X.N[i]? = some y) (hyl : X.env.scope.names.lookup y = some .local)
    (hsw : swapsWith (.ListComp elt [⟨tg, iter, ifs, 0⟩] scope pos) (some (.Name y py)) spos.line X.env = pure true) (hi : DI X W tg iter fi) (ok : BlkOk X.N X.env.scope scope own) (hsl : ∀ i ∈ p.slots, i ∈ own.map (·.2))
    (hg : ∀ (s : Shared) (H : Hp) (C : Addr) (cl : List (Str × Addr)) (fp : List Addr), DG (X.blk s H scope (compEnvC scope cl C X.env) fp) tg p) (ht : ∀ (s : Shared) (H : Hp) (C : Addr) (cl : List (Str × Addr)) (fp : List Addr), DTs (X.blk s H scope (compEnvC scope cl C X.env) fp) WF ifs t)
    (he : ∀ (s : Shared) (H : Hp) (C : Addr) (cl : List (Str × Addr)) (fp : List Addr), DE (X.blk s H scope (compEnvC scope cl C X.env) fp) WF elt e) (hs : ∀ x, foldedSetIterable iter X.env x = pure x := by intro _; rfl) :
    DS X W (.Assign [.Name y py] (.ListComp elt [⟨tg, iter, ifs, 0⟩] scope pos) spos) (sSet i (gComp (own.map (·.2)) fi p t e)) := by
  refine PSmono (ps_setLc (g := p.tg X.K) (tt := tDT X.K X.mg WF t) (te := tD X.K X.mg WF e) hc hN hy hyl hsw hi ok hg ht he hs) fun D' σ H h => ?_
  show tLc _ _ _ _ _ σ H _
  refine tLc_of (W := W) hsl ?_
  obtain ⟨β, ρ, st, hρ, hs, h⟩ := h
  exact tD_intro hρ hs (Out.sat_bind h) (fun d s1 h1 v β1 H1 e1 S1 r1 => h1 _ β1 H1 e1 S1 ((hρ.ext e1).set i r1)) fun _ _ q => xs_x q
theorem ds_setLcM (i : Nat) {y : Str} {py : Pos} {elt tg iter : Expr} {ifs : List Expr} {scope : Scope} {own : List (Str × Nat)} {pos spos : Pos} {fi : G (List D)} {p : Pat} {t : G Bool} {e : G D} (hc : X.calm = true) (hN : X.N.Nodup) (hy : X.N[i]? = some y) (hyl : X.env.scope.names.lookup y = some .local)
    (hsw : swapsWith (.ListComp elt [⟨tg, iter, ifs, 0⟩] scope pos) (some (.Name y py)) spos.line X.env = pure true) (hi : DI X W tg iter fi) (ok : BlkOk X.N X.env.scope scope own) (hsl : ∀ i ∈ p.slots, i ∈ own.map (·.2))
    (hg : ∀ (s : Shared) (H : Hp) (C : Addr) (cl : List (Str × Addr)) (fp : List Addr), DG (X.blk s H scope (compEnvC scope cl C X.env) fp) tg p) (ht : ∀ (s : Shared) (H : Hp) (C : Addr) (cl : List (Str × Addr)) (fp : List Addr), DTs (X.blk s H scope (compEnvC scope cl C X.env) fp) WF ifs t)
    (he : ∀ (s : Shared) (H : Hp) (C : Addr) (cl : List (Str × Addr)) (fp : List Addr), DE (X.blk s H scope (compEnvC scope cl C X.env) fp) WF elt e) (hs : ∀ x, foldedSetIterable iter X.env x = pure x := by intro _; rfl) :
    DS X W (.Assign [.Name y py] (.ListComp elt [⟨tg, iter, ifs, 0⟩] scope pos) spos) (sSet i (gCompM (own.map (·.2)) fi p t e)) := by
  refine PSmono (ps_setLc (g := p.tg X.K) (tt := tDT X.K X.mg WF t) (te := tD X.K X.mg WF e) hc hN hy hyl hsw hi ok hg ht he hs) fun D' σ H h => ?_
  show tLc _ _ _ _ _ σ H _
  refine tLc_ofM (W := W) hsl ?_
  obtain ⟨β, ρ, st, hρ, hs, h⟩ := h
  exact tD_intro hρ hs (Out.sat_bind h) (fun d s1 h1 v β1 H1 e1 S1 r1 => h1 _ β1 H1 e1 S1 ((hρ.ext e1).set i r1)) fun _ _ q => xs_x q

/-! ### a written dict with text keys: d.get(k), d[k] -/
/-- what the dict at d holds -/
def KTab (K : PySem.W.Frag) (d : Addr) (tab : List (Str × D)) : Prop := ∀ z : Str, ∃ r, PySem.W.nsIn K d z = some r ∧ match tab.lookup z with
  | some x => ∃ u v, r = some u ∧ RelV v u ∧ ∀ β H, Rep K β H v x
  | none => r = none
def gKGet (tab : List (Str × D)) (f : G D) : G D := fun ρ st => (f ρ st).bind fun k s1 => match k with
  | .str z => .ok ((tab.lookup z).getD .non) s1
  | _ => .bad
def gKIx (tab : List (Str × D)) (f : G D) : G D := fun ρ st => (f ρ st).bind fun k s1 => match k with
  | .str z => oout (tab.lookup z) s1
  | _ => .bad
theorem de_kget {d : Addr} {es : Array DictEntry} {n : Nat} {tab : List (Str × D)} {o e : Expr} {apos cpos : Pos} {f : G D} (D' : KDict X.K X.w d es n) (T : KTab X.K d tab) (ho : PE X o (tC (.ref d))) (he : DE X W e f) (m : M1 X o "get" apos e cpos) :
    DE X W (.Call (.Attribute o "get" apos) [e] [] cpos) (gKGet tab f) := by
  refine ⟨fun pins s σ H Q I h => ?_⟩
  obtain ⟨β, ρ, st, hρ, hs, h⟩ := h
  have he' : tD X.K X.mg W f σ H (fun y H1 => ∃ z r v, y = .str z ∧ PySem.W.nsIn X.K d z = some r ∧ RelV v (r.getD .none) ∧ Q v H1) := by
    refine tD_intro hρ hs (Out.sat_bind h) (fun k s1 h1 v β1 H1 e1 S1 r1 => ?_) fun _ _ q => q
    cases k with
    | str z =>
      cases r1
      obtain ⟨r, hr, t⟩ := T z
      have h1 : PostV X.K Q β H ((tab.lookup z).getD .non) s1 := h1
      cases q : tab.lookup z with
      | none =>
        rw [q] at t h1
        exact ⟨z, r, .non, rfl, hr, by rw [show r = none from t]; rfl, h1 .non β1 H1 e1 S1 .non⟩
      | some x =>
        rw [q] at t h1
        obtain ⟨u, v, e2, rv, rp⟩ := t
        exact ⟨z, r, v, rfl, hr, by rw [e2]; exact rv, h1 v β1 H1 e1 S1 (rp β1 H1)⟩
    | _ => exact h1.elim
  refine wpAny_Call_method m.base m.few m.line PySem.F.plainAttrs_dict PySem.F.slot_dict_get PySem.F.type_dict_get (thn (ho.run pins s σ H (fun x H1 => x = .ref d ∧ H1 = H) I ⟨rfl, rfl⟩) fun u s1 ⟨x, H1, I1, rx, ex, eH⟩ => ?_)
  subst ex eH
  obtain rfl : u = Value.ref d := rx
  refine ⟨kd_type D' I1, fun b q => ?_, ?_⟩
  · cases q
    exact ⟨_, I1.kIn _ _ D'.at_, rfl⟩
  · rw [m.trees]
    refine Calls.callWith_builtin rfl (Calls.evalArgs_plain (Calls.spliced_cons (thn (he.run pins s1 σ H1 _ I1 he') fun iv s2 ⟨y, H2, I2, ry, z, r, v, ey, hr, rv, q⟩ => Calls.spliced_nil ?_)))
    subst ey
    obtain ⟨t, rfl⟩ := ry
    refine call_meetsIn PySem.F.slot_dict_get (kd_type D' I2) PySem.F.entry_dict_get (PySem.F.args_dict_get_2 _ _) (meets_dict_get (strKind X.prog X.w) d (PySem.strKind_is X.prog X.w z t) D'.low) ⟨_, PySem.W.mapOf_K (prog := X.prog) I2.kIn D'.at_ D'.lit, ?_⟩
    rw [PySem.W.find_K D'.at_ hr]
    exact ⟨v, H2, I2.tok _, rv, q⟩
theorem pe_K {x : Str} {d : Addr} {pos : Pos} (hg : Gl X x) (hm : X.mg x = some (.ref d)) (hd : (x == ("__debug__" : Str)) = false := by decide) : PE X (.Name x pos) (tC (.ref d)) := pe_glob hg hm rfl hd
end
end DL

set_option Elab.async false
set_option linter.all false
set_option maxRecDepth 100000
set_option maxHeartbeats 2000000
namespace DL
open PySem PySem.Spec L2
open PyProof.Rows hiding St
theorem takesF {X : Cx} : Takes X WF := takes0
def mNeg : D → Sto → Option D
  | .int i, _ => some (.int (-i))
  | _, _ => none
section
variable {K : PySem.W.Frag}
theorem ud_neg : UnD K (rU fun i => .int (-i)) mNeg := by
  intro β H st x dx d Q rx S e q
  cases dx <;> simp only [mNeg, Option.some.injEq, reduceCtorEq] at e
  cases rx; subst e
  exact ⟨_, rfl, q _ _ (Same.refl H) (.int _)⟩
end
section
variable {X : Cx} {W : WX} {pos : Pos} {f g : G D} {e o : Expr}
/-- {} -/
def gDctM : G D := fun _ st => .ok (.ref st.length) (st ++ [.dK []])
theorem de_dnew : DE X W (.Dict [] [] pos) gDctM := by
  refine PEmono pe_dnewK fun σ H Q h => ?_
  obtain ⟨β, ρ, st, hρ, hs, h⟩ := h
  intro p hp
  refine h (.ref p) (β.add p) _ (Ext.grow hp) (hs.grow hp ⟨[], upd_same, rfl, rfl, .nil⟩) (.ref ?_)
  rw [← hs.len]
  simp [Bx.add]
/-! ### isinstance(x, (c1, c2)) -/
def rIsiS (K : PySem.W.Frag) : List V → Hp → VK → Prop := fun xs H Q => ∃ (x : V) (tp : Addr) (cs : List V) (t : Value) (us : List Value) (b : Bool), xs = [x, .ref tp] ∧ SqT K H tp cs ∧ Paired ClsV cs us ∧ TyX K H x t ∧ PySem.W.kitAny K t us = some b ∧ Q (.bl b) H
theorem call_isiS : CallR X (.builtin "isinstance") (rIsiS X.K) := by
  intro pins s σ H xs us Q I r h
  obtain ⟨x, tp, cs, t, ws, b, rfl, hT, k, ty, e, q⟩ := h
  obtain ⟨u1, u2, rfl, r1, r2⟩ := vals2 r
  cases (show u2 = Value.ref tp from r2)
  obtain ⟨P, Z, p, hx⟩ := kit_of I r1 ty
  obtain ⟨its, rv, ⟨o, h1, h2, n, h3⟩, _⟩ := I.tuple hT
  have e3 := ClsV.all k rv
  subst e3
  obtain ⟨oc, od, dt, sl⟩ := o
  simp only at h2 h3
  subst h2 h3
  exact PySem.W.kia_tup Z I.kIn p h1 e hx fun tk => ⟨.bl b, H, I.tok tk, rfl, q⟩
def isiAny (a : String) : List D → Option Bool
  | [] => some false
  | .raw (.ty b) :: r => match isiB a b, isiAny a r with
    | some x, some y => some (x || y)
    | _, _ => none
  | _ => none
def mIsiT : List D → Sto → Option D
  | [d, .tup cs], st => match tyD d st with
    | some a => (isiAny a cs).map D.bl
    | none => none
  | _, _ => none
theorem isiAny_kit {K : PySem.W.Frag} {β : Bx} {H : Hp} {a : String} : ∀ {cs : List D} {xs : List V} {b : Bool}, Reps K β H xs cs → isiAny a cs = some b → ∃ us, Paired ClsV xs us ∧ PySem.W.kitAny K (.type a) us = some b
  | [], _, b, r, e => by
    cases r
    cases e
    exact ⟨[], .nil, kitAny_nil⟩
  | .raw (.ty c) :: cs, _, b, r, e => by
    cases r with
    | cons r1 r2 =>
      simp only [isiAny] at e
      split at e
      · rename_i x y hx hy
        cases e
        obtain ⟨us, h1, h2⟩ := isiAny_kit r2 hy
        cases r1
        refine ⟨_, .cons (.ty c) h1, kitAny_cons (kit_ty (isiB_kit hx)) (fun z => ?_) fun z => ?_⟩
        · rw [z]; exact h2
        · rw [z]; rfl
      · cases e
theorem cd_isiT {K : PySem.W.Frag} : CallD K (rIsiS K) mIsiT := by
  intro β H st xs ds d Q r S e q
  match ds, r, e with
  | [x, .tup cs], r, e =>
    obtain ⟨v, w, rfl, r1, r2⟩ := r.two
    simp only [mIsiT] at e
    split at e
    · rename_i a ha
      rw [Option.map_eq_some_iff] at e
      obtain ⟨k, hk, e⟩ := e
      subst e
      cases r2 with
      | tup h1 h2 h3 =>
        obtain ⟨us, p, z⟩ := isiAny_kit h2 hk
        exact ⟨v, _, _, _, us, k, rfl, h1, p, tyD_x r1 S ha, z, q _ _ (Same.refl H) (.bl _)⟩
    · cases e

/-! ### writing: xs[i] = v, d[k] = v -/
def setSto (st : Sto) (n : Nat) (o : SO) : Sto := st.set n o
/-- o[i] = v -/
def mPut (o i v : D) (st : Sto) : Option Sto := match o, i with
  | .ref n, .int k => match st[n]? with
    | some (.lst l) => (ixN l.length k).map fun j => st.set n (.lst (l.set j v))
    | _ => none
  | _, _ => none
def sPut (fo fi fv : G D) : G Fl := fun ρ st => (fv ρ st).bind fun v s1 => (fo ρ s1).bind fun o s2 => (fi ρ s2).bind fun i s3 => match mPut o i v s3 with
  | some s4 => .ok (.nx ρ) s4
  | none => .bad
theorem Ext.write {β : Bx} {H : Hp} {a : Addr} {n : Nat} {o u : HO} (hm : β.lo[n]? = some a) (ha : H a = some u) (nt : ∀ xs, u ≠ .tup xs) (nf : ∀ ob w, u ≠ .frz ob w) (nc : ∀ c q, u ≠ LamX.CodeO c q := by intro _ _ z; cases z) (no : ∀ ps, o ≠ .tbl ps := by intro _ z; cases z) : Ext β H β (upd H a o) := by
  have ne : ∀ b w, H b = some w → w ≠ u → b ≠ a := fun b w q n z => by
    rw [z, ha] at q
    exact n (Option.some.inj q).symm
  refine ⟨⟨[], by simp, by simp⟩, rfl, fun b w hb hw hn => ?_, fun b xs q => ?_, fun b ob w q => ?_, fun b w q n => ?_, fun c q' z => ?_⟩
  · rw [upd_ne fun z => hb (by rw [z]; exact List.mem_iff_getElem?.mpr ⟨n, hm⟩)]
    exact hw
  · rw [upd_ne (ne b _ q fun z => nt xs z.symm)]
    exact q
  · rw [upd_ne (ne b _ q fun z => nf ob w z.symm)]
    exact q
  · by_cases hb : b = a
    · exact ⟨o, by rw [hb, upd_same], no⟩
    · exact ⟨w, by rw [upd_ne hb]; exact q, n⟩
  · rw [upd_ne (ne c _ z fun y => nc c q' y.symm)]
    exact z
theorem StoOk.write {K : PySem.W.Frag} {β : Bx} {H : Hp} {st : Sto} {a : Addr} {n : Nat} {o : HO} {so : SO} (S : StoOk K β H st) (hm : β.lo[n]? = Option.some a) (e : Ext β H β (upd H a o)) (r : SORel K β (upd H a o) a so) : StoOk K β (upd H a o) (st.set n so) := by
  refine ⟨by rw [List.length_set]; exact S.len, S.nd, fun m b u h1 h2 => ?_, fun p hp => ?_⟩
  · by_cases hn : n = m
    · subst hn
      rw [hm] at h1
      cases h1
      rw [List.getElem?_set_self (by rw [← S.len]; exact (List.getElem?_eq_some_iff.mp hm).1)] at h2
      cases h2
      exact r
    · rw [List.getElem?_set_ne hn] at h2
      refine (S.obj m b u h1 h2).move e.mv fun w q => ?_
      rw [upd_ne fun z => hn ?_]
      · exact q
      · subst z
        obtain ⟨q1, e1⟩ := List.getElem?_eq_some_iff.mp hm
        obtain ⟨q2, e2⟩ := List.getElem?_eq_some_iff.mp h1
        exact (List.getElem_inj S.nd).mp (e1.trans e2.symm)
  · obtain ⟨w, hw, nw⟩ := S.priv p hp
    exact e.dom p w hw nw
theorem ds_put {i v : Expr} {fo fi fv : G D} {tpos : Pos} (ho : DE X W o fo) (hi : DE X W i fi) (hv : DE X W v fv) (ha : ∀ u, assign (.Subscript o i tpos) X.env u = (do
      let ov ← holding [u] (eval o X.env)
      let iv ← holding [u, ov] (eval i X.env)
      standAt tpos
      holding [u, ov, iv] (setItem ov iv u)
      release [u, ov, iv] []) := by intro _; rfl) (hs : swapsWithSole [.Subscript o i tpos] v pos.line X.env = pure false := by rfl) (hw : swappedStores [.Subscript o i tpos] v X.env = pure none := by rfl)
    (h1 : (assignEach [.Subscript o i tpos] X.env).map (·.2) = [assign (.Subscript o i tpos) X.env] := by rfl) : DS X W (.Assign [.Subscript o i tpos] v pos) (sPut fo fi fv) := by
  refine PSmono (ps_asg hv (pg_sub ho hi set_list ha) hs hw h1) fun D' σ H h => ?_
  obtain ⟨β, ρ, st, hρ, hs, h⟩ := h
  refine tD_intro hρ hs (Out.sat_bind h) (fun dv s1 h1 v β1 H1 e1 S1 r1 => ?_) fun _ _ q => xs_x q
  refine tD_intro (hρ.ext e1) S1 (Out.sat_bind h1) (fun d_o s2 h2 vo β2 H2 e2 S2 r2 => ?_) fun _ _ q => (xs_x q).ext e1
  refine tD_intro ((hρ.ext e1).ext e2) S2 (Out.sat_bind h2) (fun di s3 h3 vi β3 H3 e3 S3 r3 => ?_) fun _ _ q => ((xs_x q).ext e1).ext e2
  unfold mPut at h3
  split at h3
  · rename_i s4 hp
    split at hp
    · rename_i n k
      have r2' := Rep.ext e3 _ _ r2
      cases r3
      cases r2' with
      | ref hm =>
        obtain ⟨so, hso, rel⟩ := S3.get hm
        rw [hso] at hp
        cases so with
        | lst l =>
          obtain ⟨xs, hH, rxs⟩ := rel
          simp only [Option.map_eq_some_iff] at hp
          obtain ⟨j, hj, hp⟩ := hp
          subst hp
          refine ⟨_, xs, k, j, rfl, rfl, hH, by rw [rxs.length]; exact hj, ?_⟩
          have ew := Ext.write (o := .lst (xs.set j v)) hm hH (fun _ z => by cases z) fun _ _ z => by cases z
          have rv := Rep.ext ew _ _ (Rep.ext (e2.trans e3) _ _ r1)
          exact h3 σ β3 _ (((e1.trans e2).trans e3).trans ew) (S3.write hm ew ⟨_, upd_same, (Reps.ext ew _ _ rxs).set rv j⟩) ((((hρ.ext e1).ext e2).ext e3).ext ew)
        | dK l => cases hp
        | tab q => cases hp
    · cases hp
  · exact h3.elim
/-! ### appending -/
def mLstAt (o : D) (st : Sto) : Option (Nat × List D) := match o with
  | .ref n => match st[n]? with
    | some (.lst l) => some (n, l)
    | _ => none
  | _ => none
theorem mLstAt_ok {K : PySem.W.Frag} {β : Bx} {H : Hp} {st : Sto} {o : D} {v : V} {n : Nat} {l : List D} (h : mLstAt o st = some (n, l)) (r : Rep K β H v o) (S : StoOk K β H st) : o = .ref n ∧ ∃ a xs, v = .ref a ∧ β.lo[n]? = some a ∧ H a = some (.lst xs) ∧ Reps K β H xs l := by
  unfold mLstAt at h
  split at h
  · rename_i m
    split at h
    · rename_i l' hl
      cases h
      cases r with
      | ref hm =>
        obtain ⟨so, hso, rel⟩ := S.get hm
        rw [hl] at hso
        cases hso
        obtain ⟨xs, hH, rx⟩ := rel
        exact ⟨rfl, _, xs, rfl, hm, hH, rx⟩
    · cases h
  · cases h
def gAppend (fo fv : G D) : G D := fun ρ st => (fo ρ st).bind fun o s1 => match mLstAt o s1 with
  | none => .bad
  | some _ => (fv ρ s1).bind fun v s2 => match mLstAt o s2 with
    | some (n, l) => if l.length < LIM then .ok .non (s2.set n (.lst (l ++ [v]))) else .bad
    | none => .bad
theorem de_append {o e : Expr} {fo fv : G D} {apos cpos : Pos} (ho : DE X W o fo) (he : DE X W e fv)
    (hbase : attributeBase o "append" X.env (eval o X.env) = eval o X.env := by rfl)
    (hfew : ((backTo cpos (starEach (e :: []) X.env)).all (fun x => !x.1) && (backToKw cpos (keywordEach [] X.env)).all (fun x => x.1.isSome)
      && decide ((e :: ([] : List Expr)).length + ([] : List Keyword).length + (if ([] : List Keyword).isEmpty then 0 else 1) < 30)) = true := by rfl)
    (hline : (apos.endLine == cpos.line) = true := by rfl) (hs : starEach (e :: []) X.env = (false, eval e X.env) :: starEach [] X.env := by rfl) (hplain : (backTo cpos (starEach [] X.env)).any (·.1) = false := by rfl) :
    DE X W (.Call (.Attribute o "append" apos) [e] [] cpos) (gAppend fo fv) := by
  refine PEmono (pe_bm PySem.F.plainAttrs_list PySem.F.slot_list_append PySem.F.type_list_append mt_append ho (pa_cons he pa_nil hs) hbase hfew hline hs hplain) fun σ H Q h => ?_
  obtain ⟨β, ρ, st, hρ, hs, h⟩ := h
  refine tD_intro hρ hs (Out.sat_bind h) (fun d_o s1 h1 vo β1 H1 e1 S1 r1 => ?_) fun _ _ q => q
  split at h1
  · exact h1.elim
  · rename_i z hz
    obtain ⟨n, l1⟩ := z
    obtain ⟨rfl, a, xs1, rfl, hm, hH1, rx1⟩ := mLstAt_ok hz r1 S1
    refine ⟨.inl ⟨rfl, _, .inl (.inl hH1)⟩, ?_⟩
    refine tD_intro (hρ.ext e1) S1 (Out.sat_bind h1) (fun dv s2 h2 v β2 H2 e2 S2 r2 => ?_) fun _ _ q => q.ext e1
    split at h2
    · rename_i n' l hz2
      obtain ⟨e3, a', xs, e4, hm2, hH, rx⟩ := mLstAt_ok hz2 (Rep.ref (e2.mem hm)) S2
      cases e3
      cases e4
      split at h2
      · rename_i hlt
        have hl := rx.length
        refine ⟨_, xs, v, rfl, rfl, hH, by rw [hl, sizeLine_eq]; exact Nat.lt_trans hlt (by decide), ?_⟩
        have ew := Ext.write (o := .lst (xs ++ [v])) hm2 hH (fun _ z => by cases z) fun _ _ z => by cases z
        exact h2 .non β2 _ ((e1.trans e2).trans ew) (S2.write hm2 ew ⟨_, upd_same, (Reps.ext ew _ _ rx).append (.cons (Rep.ext ew _ _ r2) .nil)⟩) .non
      · exact h2.elim
    · exact h2.elim
end
end DL

set_option Elab.async false
set_option linter.all false
set_option maxRecDepth 100000
set_option maxHeartbeats 2000000
/-! # sorted(set(texts)): a set of texts, its members in order -/
namespace DL
open PySem PySem.Spec L2
open PyProof.Rows hiding St

def keyS (e : Int × Value) : Str := match e.2 with
  | .str x _ => x
  | _ => Str.empty
def isTxt (P : Program) (w : World) (e : Int × Value) : Prop := ∃ x tk, e.2 = Value.str x tk ∧ e.1 = (strKind P w).hash x
/-- the set at a: its members S, n of them; it may be walked -/
structure TxtSet (P : Program) (w : World) (h : Heap) (a : Addr) (S : Str → Bool) (n : Nat) : Prop where
  all : ∃ o es ep t, h.get? a = some o ∧ o.ExactSet ∧ o.data = .set es ep t ∧ (∀ e ∈ es.toList, isTxt P w e) ∧ (es.toList.map keyS).Nodup ∧ (∀ x, S x = true ↔ x ∈ es.toList.map keyS) ∧
    es.size < scanBound ∧ t.fits es.size = true ∧ es.size = n ∧ Ris t.place.toList ∧ (w.params.followText "set-order" = true ∨ t.led = true)
section
variable {P : Program} {w : World} {h h' : Heap} {a : Addr} {S : Str → Bool} {n : Nat}
theorem TxtSet.stay (R : TxtSet P w h a S n) (k : ∀ o, h.get? a = some o → h'.get? a = some o) : TxtSet P w h' a S n := by
  obtain ⟨o, es, ep, t, q, r⟩ := R.all
  exact ⟨⟨o, es, ep, t, k o q, r⟩⟩
theorem TxtSet.cg {S' : Str → Bool} {n' : Nat} (R : TxtSet P w h a S n) (e : ∀ x, S' x = S x) (en : n' = n) : TxtSet P w h a S' n' := by
  have : S' = S := funext e
  subst this en
  exact R
theorem txt_elems {l : List (Int × Value)} (g : ∀ e ∈ l, isTxt P w e) : ElemsOf (strKind P w) l := fun e he => by
  obtain ⟨x, tk, e1, e2⟩ := g e he
  rw [e1]
  exact ⟨⟨x, strKind_is P w x tk, e2⟩, rfl⟩
theorem txt_is {e : Int × Value} (g : isTxt P w e) (x : Str) : (strKind P w).is x e.2 = true ↔ keyS e = x := by
  obtain ⟨y, tk, e1, _⟩ := g
  have hy := strKind_is P w y tk
  constructor
  · intro z
    rw [e1] at z
    unfold keyS
    rw [e1]
    exact (strKind P w).inj _ _ _ hy z
  · intro z
    unfold keyS at z
    rw [e1] at z ⊢
    have z : y = x := z
    subst z
    exact hy
theorem txt_mem {l : List (Int × Value)} (g : ∀ e ∈ l, isTxt P w e) (x : Str) : x ∈ l.map keyS ↔ ∃ e ∈ l, (strKind P w).is x e.2 = true := by
  rw [List.mem_map]
  constructor
  · rintro ⟨e, he, q⟩
    exact ⟨e, he, (txt_is (g e he) x).mpr q⟩
  · rintro ⟨e, he, q⟩
    exact ⟨e, he, (txt_is (g e he) x).mp q⟩
theorem TxtSet.setOf (R : TxtSet P w h a S n) : h.SetOf (strKind P w) a S n := by
  obtain ⟨o, es, ep, t, ho, hx, hd, g, nd, hm, hb, hf, hn, _⟩ := R.all
  exact ⟨o, es, ep, t, ho, hx, hd, txt_elems g, fun k => (hm k).trans (txt_mem g k), hb, hf, hn⟩
end
section
variable {P : Program} {w : World} {A : Around} {E : Value → Shared → Prop} {s : Shared} {a : Addr} {S : Str → Bool} {n : Nat}
theorem txt_tail {g : Bool → Sem Unit} (hg : ∀ (b : Bool) (s₁ : Shared) (Q' : Unit → Shared → Prop), Q' () s₁ → wpAny (model P w) A (g b) Q' E s₁) {o : Obj} {es : Array (Int × Value)} {ep : Nat} {t : SetTable} (ho : s.heap.get? a = some o) (hex : o.ExactSet) (hd : o.data = .set es ep t)
    {e1 : Array (Int × Value)} {t2 : SetTable} {S' : Str → Bool} (g1 : ∀ e ∈ e1.toList, isTxt P w e) (nd : (e1.toList.map keyS).Nodup) (m1 : ∀ k, S' k = true ↔ k ∈ e1.toList.map keyS) (hb : e1.size < scanBound) (hf : t2.fits e1.size = true) (hr : Ris t2.place.toList) (hl : w.params.followText "set-order" = true ∨ t2.led = true)
    {was : Bool} {R : Option Bool → Shared → Prop} (hR : ∀ h', Heap.SameBut a s.heap h' → TxtSet P w h' a S' e1.size → R (some true) { s with heap := h' }) :
    wpAny (model P w) A (do storeSet a e1 t2; if (!was && t2.tooFull) = true then do { g (relayAll t2 e1 (SetTable.grown e1.size)).2.2; storeSet a (relayAll t2 e1 (SetTable.grown e1.size)).1 (relayAll t2 e1 (SetTable.grown e1.size)).2.1; pure (some true) } else pure (some true)) R E s := by
  refine wpAny_bind (wpAny_storeSet_of ho hd ?_ (fits_of_scanBound hb))
  have q1 := store_at (es' := e1) (t' := t2) ho hd
  have sb := Heap.SameBut.update s.heap a (Obj.putSet e1 t2)
  by_cases hc : (!was && t2.tooFull) = true
  · rw [if_pos hc]
    have pm := relayAll_perm t2 e1 (SetTable.grown e1.size)
    have f3 := relayAll_fits t2 e1 (SetTable.grown e1.size)
    have r3 := relayAll_ris t2 e1 (SetTable.grown e1.size)
    have l3 := relayAll_led t2 e1 (SetTable.grown e1.size)
    revert pm f3 r3 l3
    generalize relayAll t2 e1 (SetTable.grown e1.size) = Z
    obtain ⟨e2, t3, gave⟩ := Z
    intro pm f3 r3 l3
    dsimp only at pm f3 r3 l3 ⊢
    have hz : e2.size = e1.size := by
      have := pm.length_eq
      rwa [Array.length_toList, Array.length_toList] at this
    refine wpAny_bind (hg _ _ _ (wpAny_bind (wpAny_storeSet_of q1 rfl (wpAny_pure (hR _ (sb.trans (Heap.SameBut.update _ a _)) ?_)) (fits_of_scanBound (by rw [hz]; exact hb)))))
    exact ⟨⟨_, e2, _, t3, store_at q1 rfl, hex, rfl, fun e he => g1 e (pm.mem_iff.mp he), (pm.map keyS).nodup_iff.mpr nd, fun k => (m1 k).trans (pm.map keyS).mem_iff.symm, by rw [hz]; exact hb, f3, hz, r3, hl.imp id fun z => by rw [l3]; exact z⟩⟩
  · rw [if_neg hc]
    exact wpAny_pure (hR _ sb ⟨⟨_, e1, _, t2, q1, hex, rfl, g1, nd, m1, hb, hf, rfl, hr, hl⟩⟩)
theorem txt_put {x : Str} {tk : Tok} {Q : Bool → Shared → Prop} (R : TxtSet P w s.heap a S n) (room : n + 1 < scanBound)
    (hQ : ∀ h', Heap.SameBut a s.heap h' → TxtSet P w h' a (fun j => S j || decide (j = x)) (if S x = true then n else n + 1) → Q (!S x) { s with heap := h' }) : wpAny (model P w) A (setAddHashed a (.str x tk) ((strKind P w).hash x)) Q E s := by
  obtain ⟨o, es, ep, t, ho, hex, hd, g, nd, hm, hb, hf, hn, hr, hl⟩ := R.all
  have hk := strKind_is P w x tk
  have hsc : (Value.str x tk).scannable = true := rfl
  have hel := txt_elems g
  unfold setAddHashed setAddHashedIn
  refine wpAny_holding (wpAny_bind (wpAny_setState_of ho hd hf ?_))
  dsimp only
  rw [byScan_of hsc hb hel]
  simp only [↓reduceIte]
  unfold setAddByScan
  refine wpAny_bind (wpAny_bind (wpAny_rule (wpAny_bind (wpAny_setScan_of hk ho hd hf hel ?_))))
  cases hfi : List.findIdx? (fun e => (strKind P w).is x e.2) es.toList with
  | some j =>
    obtain ⟨hj, pj, _⟩ := List.findIdx?_eq_some_iff_getElem.mp hfi
    have hS : S x = true := (hm x).2 ((txt_mem g x).2 ⟨es.toList[j], List.getElem_mem hj, pj⟩)
    have q := hQ s.heap (Heap.SameBut.refl a s.heap) (R.cg (fun i => by
      by_cases e : i = x
      · subst e; simp [hS]
      · simp [e]) (by rw [if_pos hS]))
    rw [hS] at q
    exact wpAny_pure (wpAny_pure q)
  | none =>
    have no : x ∉ es.toList.map keyS := fun z => by
      obtain ⟨e, he, q⟩ := (txt_mem g x).1 z
      have c := List.findIdx?_eq_none_iff.mp hfi e he
      rw [q] at c
      cases c
    have hS : S x = false := by
      cases q : S x with
      | false => rfl
      | true => exact absurd ((hm x).1 q) no
    have gw : ∀ (b : Bool) {s₁ : Shared} {Q' : Unit → Shared → Prop}, Q' () s₁ → wpAny (model P w) A (match b with | true => rule "set.scan.the-table-gave-way" | false => pure ()) Q' E s₁ := fun b s₁ Q' q => by
      cases b
      · exact wpAny_pure q
      · exact wpAny_rule q
    dsimp only
    have pm := layNew_perm t es ((strKind P w).hash x) (.str x tk)
    have f1 := layNew_fits t es ((strKind P w).hash x) (.str x tk)
    have r1 := layNew_ris t es ((strKind P w).hash x) (.str x tk) hr
    have l1 := layNew_led t es ((strKind P w).hash x) (.str x tk)
    revert pm f1 r1 l1
    generalize layNew t es ((strKind P w).hash x) (.str x tk) = Z
    obtain ⟨e1, t1, was, gave⟩ := Z
    intro pm f1 r1 l1
    dsimp only at pm f1 r1 l1 ⊢
    rw [Array.toList_push] at pm
    have pc : e1.toList.Perm (((strKind P w).hash x, Value.str x tk) :: es.toList) := pm.trans (List.perm_append_singleton _ _)
    have pk : (e1.toList.map keyS).Perm (x :: es.toList.map keyS) := pc.map keyS
    have g1 : ∀ e ∈ e1.toList, isTxt P w e := fun e he => (List.mem_cons.mp (pc.mem_iff.mp he)).elim (fun z => by rw [z]; exact ⟨x, tk, rfl, rfl⟩) (g e)
    have nd1 : (e1.toList.map keyS).Nodup := pk.nodup_iff.mpr (List.nodup_cons.mpr ⟨no, nd⟩)
    have m1 : ∀ i, (S i || decide (i = x)) = true ↔ i ∈ e1.toList.map keyS := fun i => by
      rw [Bool.or_eq_true, decide_eq_true_eq, hm i, pk.mem_iff, List.mem_cons]
      exact Or.comm
    have hz : e1.size = n + 1 := by
      have := pc.length_eq
      rw [Array.length_toList, List.length_cons, Array.length_toList] at this
      omega
    have hb1 : e1.size < scanBound := by rw [hz]; exact room
    have ld : w.params.followText "set-order" = true ∨ t1.led = true := hl.imp id fun z => by rw [l1]; exact z
    have fin : ∀ h', Heap.SameBut a s.heap h' → TxtSet P w h' a (fun j => S j || decide (j = x)) e1.size → Q true { s with heap := h' } := fun h' sb r => by
      have q := hQ h' sb
      rw [hS] at q
      rw [hz] at r
      exact q r
    refine wpAny_bind (gw _ ?_)
    have gg : ∀ (b : Bool) (s₁ : Shared) (Q' : Unit → Shared → Prop), Q' () s₁ → wpAny (model P w) A (match b with | true => rule "set.scan.the-table-gave-way" | false => pure ()) Q' E s₁ := fun b s₁ Q' q => gw b q
    split
    · refine wpAny_bind ?_
      rw [hashByValue_scannable 8 hsc]
      refine wpAny_pure (txt_tail ?_ ho hex hd g1 nd1 m1 hb1 ?_ ?_ ?_ fun h' sb r => ?_)
      · intro b s₁ Q' q
        cases b
        · first | exact wpAny_pure q | exact wpAny_rule q
        · first | exact wpAny_rule q | exact wpAny_pure q
      · first | exact f1 | (split <;> first | exact f1 | exact SetTable.fits_plain_off f1)
      · first | exact r1 | (split <;> exact r1)
      · first | exact ld | (split <;> exact ld)
      · exact wpAny_pure (fin h' sb r)
    · refine wpAny_bind (wpAny_pure ?_)
      simp only [↓reduceIte]
      refine txt_tail ?_ ho hex hd g1 nd1 m1 hb1 f1 r1 ld fun h' sb r => wpAny_pure (fin h' sb r)
      intro b s₁ Q' q
      cases b
      · first | exact wpAny_pure q | exact wpAny_rule q
      · first | exact wpAny_rule q | exact wpAny_pure q
end
end DL
namespace DL
open PySem PySem.Spec L2
open PyProof.Rows hiding St
theorem strsAre_get : ∀ {us : List Value} {xs : List Str}, StrsAre us xs → ∀ (i : Nat) (v : Value), us[i]? = some v → ∃ x t, xs[i]? = some x ∧ v = .str x t
  | _, _, .nil, i, v, h => by simp at h
  | _, _, .cons x t hr, 0, v, h => ⟨x, t, rfl, (Option.some.inj (by simpa using h)).symm⟩
  | _, _, .cons x t hr, i + 1, v, h => strsAre_get hr i v (by simpa using h)
section
variable {prog : Program} {w : World} {A : Around} {R : Result → Shared → Prop} {I : Addr} {fp wr : List Addr} {G : Array GenState → Array GenState → Prop} {n : Nat} {P : Nat → Value → Prop} {St : Nat → Shared → Prop}
/-- the members that come from a walk of texts -/
theorem txt_loop (W : WalksS prog w A.in1 I fp wr G n P St) (S : Addr) (hSf : S ∉ fp) (xs : List Str) (hz : xs.length = n) (hb : n + 1 < scanBound) (hval : ∀ i v, P i v → ∃ x t, xs[i]? = some x ∧ v = .str x t) :
    ∀ (k i m : Nat) (s : Shared), n - i = k → i ≤ n → m ≤ i → St i s → TxtSet prog w s.heap S (fun x => decide (x ∈ xs.take i)) m →
      (∀ s' m', Moved (S :: wr) G s s' → m' ≤ n → TxtSet prog w s'.heap S (fun x => decide (x ∈ xs)) m' → R (.ok (.ret .none)) s') →
      codeAny (model prog w) A (.builtin "set.update.loop" ⟨[.ref S, .ref I], []⟩) R s := by
  have hSw : S ∉ wr := fun h => hSf (W.sub _ h)
  have sub : ∀ b ∈ wr, b ∈ S :: wr := fun b hb => List.mem_cons_of_mem _ hb
  intro k
  induction k with
  | zero =>
    intro i m s hk hi hm hst hS hR
    have e : i = n := by omega
    subst e
    refine codeAny_builtin PyProof.Rows.F.entry_set_update_loop ?_
    rw [Around.under_plainId PyProof.Rows.F.plain_set_update_loop _]
    show wpAny _ A.in1 (pyNext (.ref I) >>= _) _ _ s
    refine wpAny_bind (W.done s _ _ hst fun s' mv => ?_)
    show wpAny _ A.in1 (ret Value.none) _ _ s'
    refine wpAny_pure (hR s' m (mv.mono sub) hm ((hS.stay fun o => mv.heap S o hSw).cg (fun x => ?_) rfl))
    rw [← hz, List.take_length]
  | succ k ih =>
    intro i m s hk hi hm hst hS hR
    have lt : i < n := by omega
    refine codeAny_builtin PyProof.Rows.F.entry_set_update_loop ?_
    rw [Around.under_plainId PyProof.Rows.F.plain_set_update_loop _]
    show wpAny _ A.in1 (pyNext (.ref I) >>= _) _ _ s
    refine wpAny_bind (W.item i s _ _ lt hst fun v s' hP hst' mv => ?_)
    obtain ⟨x, t, hx, rfl⟩ := hval i v hP
    have S1 := hS.stay fun o => mv.heap S o hSw
    show wpAny _ A.in1 (holding [Value.str x t] (setAdd S (.str x t)) >>= _) _ _ s'
    refine wpAny_bind (wpAny_holding ?_)
    unfold setAdd
    refine wpAny_holding (wpAny_bind ((strKind prog w).pyHash (k := x) (strKind_is _ _ _ _) ?_))
    refine txt_put (s := { s' with toks := s'.toks + 1 }) S1 (by omega) fun h' sb S2 => ?_
    have tk : xs.take (i + 1) = xs.take i ++ [x] := by rw [List.take_add_one, hx]; rfl
    have S3 : TxtSet prog w h' S (fun y => decide (y ∈ xs.take (i + 1))) (if decide (x ∈ xs.take i) = true then m else m + 1) := S2.cg (fun y => by
      rw [tk]
      by_cases h1 : y ∈ xs.take i <;> by_cases h2 : y = x <;> simp [h1, h2]) rfl
    refine wpAny_pure ⟨plainId_quiet PyProof.Rows.F.plain_set_update_loop _, ih (i + 1) _ _ (by omega) lt ?_ (W.frame _ s' _ _ hst' (Nat.le_succ _) fun b hb o e => ?_) S3 fun s'' m' mv2 hm' hS' => ?_⟩
    · split <;> omega
    · rw [sb.2 b (fun z : b = S => hSf (by rw [← z]; exact hb))]
      exact e
    · refine hR s'' m' (Moved.trans W.gtrans ((mv.mono sub).then_heap (Nat.le_succ _) fun b o hb e => ?_) mv2) hm' hS'
      rw [sb.2 b (fun z : b = S => hb (by rw [z]; exact List.mem_cons_self))]
      exact e
end
section
variable {prog : Program} {w : World} {A : Around} {E : Value → Shared → Prop} {s : Shared}
/-- set.__new__ of one argument: the empty set, with its ledger as the settings say -/
theorem txt_new (a : Value) {Q₁ : Value → Shared → Prop}
    (h : Q₁ (.ref s.heap.objs.size) { s with heap := s.heap.push { cls := .type "set", dict := none, data := .set #[] 0 (.fresh 0 0 (!w.params.followText "set-order")) } }) :
    codeAny (model prog w) A (.call (.builtin "set.__new__") ⟨[.type "set", a], []⟩) (wants Q₁ E) s := by
  refine codeAny_of_tree ?_
  show wpAny _ A.in1 (do checkBuiltinCall "set.__new__" ⟨[.type "set", a], []⟩; again (.builtin "set.__new__" ⟨[.type "set", a], []⟩)) _ _ s
  refine wpAny_bind (wpAny_of_eq (show checkBuiltinCall "set.__new__" ⟨[.type "set", a], []⟩ = pure () by kernel_rfl) (wpAny_pure ⟨plainId_quiet PySem.F.plain_set_new _, codeAny_builtin PySem.F.entry_set_new ?_⟩))
  rw [Around.under_plainId PySem.F.plain_set_new _]
  unfold Builtin.«set.__new__» Builtin.Frozenset.newClass
  have hsub : isSubtype (.type "set") (.type "set") = pure true := by rw [isSubtype_type]; kernel_rfl
  obtain ⟨hp, g, d, tk, os⟩ := s
  dsimp only
  wp_walk
  refine wpAny_askSetting (wpAny_pure ?_)
  dsimp only
  simp only [newObj]
  exact wpAny_bind (wpAny_alloc (wpAny_pure (wpAny_pure h)))

/-- set(t), t a tuple of texts -/
theorem txt_of_tuple {l : Addr} {items : Array Value} {xs : List Str} {Q : Value → Shared → Prop} (hh : A.handled = none) (hl : s.heap.IsTuple l items) (hi : StrsAre items.toList xs) (hb : xs.length + 1 < scanBound)
    (h : ∀ (h' : Heap) (tk m : Nat), m ≤ xs.length → TxtSet prog w h' s.heap.objs.size (fun x => decide (x ∈ xs)) m → (∀ b o, b < s.heap.objs.size → s.heap.get? b = some o → h'.get? b = some o) → s.heap.objs.size ≤ h'.objs.size → Q (.ref s.heap.objs.size) { s with heap := h', toks := tk }) :
    wpAny (model prog w) A (call (.type "set") [.ref l]) Q E s := by
  obtain ⟨c, tl, hmro⟩ := PySem.F.called_set.mro
  have made := PySem.F.called_set.made
  have sub := PySem.F.called_set.sub
  refine wpAny_call (codeAny_of_tree ?_)
  show wpAny _ _ (callAny (.type "set") _) _ _ _
  refine wpAny_pure ⟨Code.quiet_builtin _ (by decide +kernel), codeAny_builtin PySem.F.entry_type_call ?_⟩
  rw [Around.under_plain (weight_type_call_type "set" [.ref l] []) rfl]
  have n1 := PySem.F.called_set.notType
  have n2 := PySem.F.called_set.canCreate
  have n3 := PySem.F.typeCall_set_1 (.ref l)
  repeat (any_goals (first | assumption | wp_step))
  refine codeAny_mono (txt_new (.ref l) (E := E) (Q₁ := fun obj s₁ => obj = .ref s.heap.objs.size ∧ s₁ = { s with heap := s.heap.push { cls := .type "set", dict := none, data := .set #[] 0 (.fresh 0 0 (!w.params.followText "set-order")) } }) ⟨rfl, rfl⟩) fun r s₁ hr => ?_
  cases r with
  | error e => exact hr
  | ok fl =>
    cases fl with
    | ret obj =>
      obtain ⟨rfl, rfl⟩ := hr
      generalize hled : (!w.params.followText "set-order") = led
      have hS : (s.heap.push { cls := .type "set", dict := none, data := .set #[] 0 (.fresh 0 0 led) }).get? s.heap.objs.size = some { cls := .type "set", dict := none, data := .set #[] 0 (.fresh 0 0 led) } := Heap.get?_push_size _ rfl
      have hT : Shared.TypeIs { s with heap := s.heap.push { cls := .type "set", dict := none, data := .set #[] 0 (.fresh 0 0 led) } } (.ref s.heap.objs.size) "set" := ⟨_, hS, rfl⟩
      have i1 := PySem.F.called_set.init.lookup
      have i2 := PySem.F.called_set.init.bind (.ref s.heap.objs.size)
      repeat (any_goals (first | assumption | wp_step))
      refine codeAny_mono (codeAny_call_builtin (R := wants (fun r s₂ => r = .none ∧ ∃ h' tk m, s₂ = { s with heap := h', toks := tk } ∧ m ≤ xs.length ∧ TxtSet prog w h' s.heap.objs.size (fun x => decide (x ∈ xs)) m ∧
          (∀ b o, b < s.heap.objs.size → s.heap.get? b = some o → h'.get? b = some o) ∧ s.heap.objs.size ≤ h'.objs.size) E) PySem.F.called_set.init.plain PySem.F.entry_set_init (check_set_init_1 hT ?_)) fun r₂ s₂ hr₂ => ?_
      · obtain ⟨ol, hol, hcl, nl, hdl⟩ := hl
        obtain ⟨ocls, odict, odata, oslots⟩ := ol
        simp only at hcl hdl
        subst hcl hdl
        have hol' : (s.heap.push { cls := .type "set", dict := none, data := .set #[] 0 (.fresh 0 0 led) }).get? l = some { cls := .type "tuple", dict := odict, data := .seq items nl, slots := oslots } := Heap.get?_push_of_some _ hol
        have u1 := PySem.F.sub_tuple_set
        have u2 := PySem.F.sub_tuple_frozenset
        have u3 : (Value.type "tuple" == Value.type "dict") = false := by decide
        have hl1 : (s.heap.push { cls := .type "set", dict := none, data := .set #[] 0 (.fresh 0 0 led) }).IsTuple l items := ⟨_, hol', rfl, nl, rfl⟩
        unfold Builtin.«set.__init__» noKeywords Builtin.Frozenset.updateFrom
        generalize hPI : pyIter = PI
        wp_walk
        subst hPI
        refine wpAny_pyIter_tuple hl1 (wpAny_bind (wpAny_runValue ?_))
        have hlS : l < s.heap.objs.size := Heap.lt_size hol
        have h3 : A.in1.in1.in1.handled = none := by simp [hh]
        have neI : l ≠ (s.heap.push { cls := .type "set", dict := none, data := .set #[] 0 (.fresh 0 0 led) }).objs.size := by
          rw [Heap.size_push]
          exact Nat.ne_of_lt (Nat.lt_succ_of_lt hlS)
        have nS : s.heap.objs.size ∉ [(s.heap.push { cls := .type "set", dict := none, data := .set #[] 0 (.fresh 0 0 led) }).objs.size, l] := by
          rw [Heap.size_push]
          simp only [List.mem_cons, List.not_mem_nil, or_false, not_or]
          exact ⟨Nat.ne_of_lt (Nat.lt_succ_self _), Nat.ne_of_gt hlS⟩
        have hz : xs.length = items.size := by rw [← StrsAre.len_eq hi, Array.length_toList]
        have hget : ((s.heap.push { cls := .type "set", dict := none, data := .set #[] 0 (.fresh 0 0 led) }).push { cls := .type "tuple_iterator", data := .fields #[.ref l, .int 0 0] }).get? s.heap.objs.size = some { cls := .type "set", dict := none, data := .set #[] 0 (.fresh 0 0 led) } := Heap.get?_push_of_some _ hS
        refine txt_loop ((Walks.tuple h3 _ l neI items).toS) s.heap.objs.size nS xs hz (by rw [← hz]; exact hb) (fun i v hv => strsAre_get hi i v (by rw [Array.getElem?_toList]; exact hv)) (items.size - 0) 0 0 _ (by omega) (Nat.zero_le _) (Nat.le_refl _) ⟨⟨_, Heap.get?_push_size _ rfl, rfl, rfl⟩, hl1.push _⟩ ?hS0 ?hR
        case hS0 =>
          refine ⟨⟨_, #[], 0, _, hget, ⟨rfl, rfl, rfl⟩, rfl, fun e he => by simp at he, by simp, fun x => by simp, by decide, rfl, rfl, List.Pairwise.nil, ?_⟩⟩
          show _ ∨ led = true
          rw [← hled]
          cases w.params.followText "set-order"
          · exact .inr rfl
          · exact .inl rfl
        case hR =>
          intro s' m' mv hm' hS'
          obtain ⟨h', g', d', tk', os'⟩ := s'
          have eg : g' = s.gens := mv.gens
          have ed : d' = s.drawn := mv.drawn
          have eo : os' = s.os := mv.os
          subst eg ed eo
          show wpAny _ _ _ _ _ _
          refine wpAny_pure ?_
          show wpAny _ _ (ret Value.none) _ _ _
          have kp : ∀ b o, b < s.heap.objs.size → s.heap.get? b = some o → h'.get? b = some o := fun b o hb e => by
            have b1 : b ≠ s.heap.objs.size := Nat.ne_of_lt hb
            have b2 : b ≠ (s.heap.push { cls := .type "set", dict := none, data := .set #[] 0 (.fresh 0 0 led) }).objs.size := by
              rw [Heap.size_push]
              exact Nat.ne_of_lt (Nat.lt_succ_of_lt hb)
            exact mv.heap b o (by simp only [List.mem_cons, List.not_mem_nil, or_false, not_or]; exact ⟨b1, b2⟩) (Heap.get?_push_of_some _ (Heap.get?_push_of_some _ e))
          refine wpAny_pure ⟨rfl, h', tk', m', rfl, by rw [hz]; exact hm', hS', kp, ?_⟩
          obtain ⟨o, _, _, _, ho, _⟩ := hS'.all
          exact Nat.le_of_lt (Heap.lt_size ho)
      · cases r₂ with
        | error e => exact hr₂
        | ok fl₂ =>
          cases fl₂ with
          | ret r =>
            obtain ⟨rfl, h', tk, m, rfl, hm, hS', hk', hsz⟩ := hr₂
            repeat (any_goals (first | assumption | wp_step))
            exact h _ _ m hm hS' hk' hsz
          | _ => exact hr₂.elim
    | _ => exact hr.elim
end
end DL

set_option Elab.async false
set_option linter.all false
set_option maxRecDepth 100000
set_option maxHeartbeats 2000000
namespace DL
open PySem PySem.Spec L2
open PyProof.Rows hiding St

/-! ### texts in order -/
def ltS (x y : Str) : Bool := decide (x.cps.toList < y.cps.toList)
def insS (x : Str) : List Str → List Str
  | [] => [x]
  | y :: r => if ltS x y then x :: y :: r else if ltS y x then y :: insS x r else y :: r
/-- the texts of a list, each once, ascending -/
def sortS (l : List Str) : List Str := l.foldr insS []
theorem str_of_cps {x y : Str} (h : x.cps.toList = y.cps.toList) : x = y := by
  obtain ⟨⟨a⟩⟩ := x
  obtain ⟨⟨b⟩⟩ := y
  have h : a = b := h
  subst h
  rfl
theorem ltS_irr (x : Str) : ltS x x = false := decide_eq_false (List.lt_irrefl _)
theorem ltS_trans {x y z : Str} (a : ltS x y = true) (b : ltS y z = true) : ltS x z = true := decide_eq_true (List.lt_trans (of_decide_eq_true a) (of_decide_eq_true b))
theorem ltS_tri {x y : Str} (a : ltS x y = false) (b : ltS y x = false) : x = y := by
  refine str_of_cps (List.le_antisymm ?_ ?_)
  · exact List.not_lt.mp (of_decide_eq_false b)
  · exact List.not_lt.mp (of_decide_eq_false a)
theorem mem_insS {x z : Str} : ∀ {l : List Str}, z ∈ insS x l ↔ z = x ∨ z ∈ l
  | [] => by simp [insS]
  | y :: r => by
    unfold insS
    split
    · simp
    · rename_i h1
      split
      · rw [List.mem_cons, mem_insS, List.mem_cons]
        exact ⟨fun h => h.elim (fun e => .inr (.inl e)) fun h => h.elim .inl fun h => .inr (.inr h), fun h => h.elim (fun e => .inr (.inl e)) fun h => h.elim .inl fun h => .inr (.inr h)⟩
      · rename_i h2
        have e : x = y := ltS_tri (by simpa using h1) (by simpa using h2)
        subst e
        simp
theorem mem_sortS {z : Str} : ∀ {l : List Str}, z ∈ sortS l ↔ z ∈ l
  | [] => by simp [sortS]
  | x :: l => by
    show z ∈ insS x (sortS l) ↔ _
    rw [mem_insS, mem_sortS, List.mem_cons]
abbrev Asc (l : List Str) : Prop := l.Pairwise fun a b => ltS a b = true
theorem asc_insS {x : Str} : ∀ {l : List Str}, Asc l → Asc (insS x l)
  | [], _ => by simp [insS]
  | y :: r, h => by
    obtain ⟨h1, h2⟩ := List.pairwise_cons.mp h
    unfold insS
    split
    · rename_i q
      exact List.pairwise_cons.mpr ⟨fun z hz => (List.mem_cons.mp hz).elim (fun e => by rw [e]; exact q) fun hz => ltS_trans q (h1 z hz), h⟩
    · split
      · rename_i q
        exact List.pairwise_cons.mpr ⟨fun z hz => (mem_insS.mp hz).elim (fun e => by rw [e]; exact q) (h1 z), asc_insS h2⟩
      · exact h
theorem asc_sortS : ∀ (l : List Str), Asc (sortS l)
  | [] => List.Pairwise.nil
  | x :: l => asc_insS (asc_sortS l)
theorem asc_one : ∀ {l m : List Str}, Asc l → Asc m → (∀ z, z ∈ l ↔ z ∈ m) → l = m
  | [], [], _, _, _ => rfl
  | [], y :: m, _, _, h => by simpa using (h y).mpr List.mem_cons_self
  | x :: l, [], _, _, h => by simpa using (h x).mp List.mem_cons_self
  | x :: l, y :: m, a, b, h => by
    obtain ⟨a1, a2⟩ := List.pairwise_cons.mp a
    obtain ⟨b1, b2⟩ := List.pairwise_cons.mp b
    have e : x = y := by
      rcases List.mem_cons.mp ((h x).mp List.mem_cons_self) with e | hx
      · exact e
      · rcases List.mem_cons.mp ((h y).mpr List.mem_cons_self) with e | hy
        · exact e.symm
        · have := ltS_trans (b1 x hx) (a1 y hy)
          rw [ltS_irr] at this
          cases this
    subst e
    have ne : ∀ z, ltS x z = true → z ≠ x := fun z q e => by
      rw [e, ltS_irr] at q
      cases q
    rw [asc_one a2 b2 fun z => ⟨fun hz => ((List.mem_cons.mp ((h z).mp (List.mem_cons_of_mem _ hz))).resolve_left (ne z (a1 z hz))), fun hz => ((List.mem_cons.mp ((h z).mpr (List.mem_cons_of_mem _ hz))).resolve_left (ne z (b1 z hz)))⟩]
theorem asc_of : ∀ (l : List Str), sortedS l = true → l.Nodup → Asc l
  | [], _, _ => List.Pairwise.nil
  | x :: r, h, d => by
    have go : ∀ (r : List Str) (p : Str), risingS p r = true → (p :: r).Nodup → Asc (p :: r) := fun r => by
      induction r with
      | nil => exact fun p _ _ => List.pairwise_singleton _ _
      | cons y r ih =>
        intro p hp hd
        simp only [risingS, Bool.and_eq_true, Bool.not_eq_true'] at hp
        obtain ⟨d1, d2⟩ := List.nodup_cons.mp hd
        have q := ih y hp.2 d2
        have py : ltS p y = true := by
          cases e : ltS p y with
          | true => rfl
          | false =>
            have e2 : ltS y p = false := by
              have := hp.1
              rw [ltCps_eq] at this
              exact this
            exact absurd (by rw [ltS_tri e e2]; exact List.mem_cons_self) d1
        refine List.pairwise_cons.mpr ⟨fun z hz => ?_, q⟩
        rcases List.mem_cons.mp hz with e | hz
        · rw [e]; exact py
        · exact ltS_trans py ((List.pairwise_cons.mp q).1 z hz)
    exact go r x h d

section
variable {P : Program} {w : World} {A : Around} {E : Value → Shared → Prop} {s : Shared} {a : Addr} {S : Str → Bool} {n : Nat}
theorem strsAre_of_txt : ∀ (l : List Value), (∀ v ∈ l, ∃ x tk, v = Value.str x tk) → StrsAre l (l.map strOf)
  | [], _ => .nil
  | v :: l, h => by
    obtain ⟨x, tk, rfl⟩ := h v List.mem_cons_self
    exact .cons x tk (strsAre_of_txt l fun u hu => h u (List.mem_cons_of_mem _ hu))
theorem keyS_of {e : Int × Value} (g : isTxt P w e) : strOf e.2 = keyS e := by
  obtain ⟨x, tk, e1, _⟩ := g
  unfold keyS
  rw [e1]
  rfl
theorem txt_sorted {Q : Value → Shared → Prop} (R : TxtSet P w s.heap a S n) (hh : A.handled = none) (h64 : n < 64)
    (hQ : ∀ s' p (out : Array Value) (c : Nat) (ss : List Str), (∀ b o, s.heap.get? b = some o → s'.heap.get? b = some o) → s'.gens = s.gens → s'.os = s.os → s.heap.objs.size ≤ p →
      s'.heap.get? p = some (seqObj "list" out c) → StrsAre out.toList ss → Asc ss → (∀ x, x ∈ ss ↔ S x = true) → ss.length = n → Q (.ref p) s') : wpAny (model P w) A (call (.builtin "sorted") [.ref a]) Q E s := by
  obtain ⟨o, es, ep, t, ho, hex, hd, g, nd, hm, hb, hf, hn, hr, hl⟩ := R.all
  refine Calls.call_function_entry kind_sorted plain_sorted entry_sorted (args_sorted1 _) ?_
  unfold Builtin.«sorted»
  refine wpAny_bind (m := checkCount "sorted" 1 1 _) (wpAny_pure (wpAny_bind (collect_set (A := A.in1) hh ⟨o, ho, hex.1, hd⟩ hf hb hr hl fun s1 vs k1 hz g1 o1 pm => ?_)))
  have hvl : vs.length = n := by rw [pm.length_eq, List.length_map, Array.length_toList]; exact hn
  have hI : StrsAre vs (vs.map strOf) := strsAre_of_txt vs fun v hv => by
    obtain ⟨e, he, q⟩ := List.mem_map.mp (pm.mem_iff.mp hv)
    obtain ⟨x, tk, e1, _⟩ := g e he
    exact ⟨x, tk, by rw [← q]; exact e1⟩
  have pk : (vs.map strOf).Perm (es.toList.map keyS) := by
    have q := pm.map strOf
    rw [List.map_map] at q
    rw [← List.map_congr_left (fun e he => keyS_of (g e he))]
    exact q
  refine wpAny_bind (wpAny_newList ?_ (by rw [hvl, sizeLine_eq]; omega))
  have hoL : (s1.heap.push (seqObj "list" vs.toArray 0)).get? s1.heap.objs.size = some (seqObj "list" vs.toArray 0) := Heap.get?_push_size _ rfl
  refine wpAny_bind (wpAny_holding (wpAny_call_entry slot_list_sort ⟨_, hoL, rfl⟩ entry_list_sort (list_sort_treeK strKind_oneLt hoL hI.keysOf (fun v₁ v₂ rest e => keyKind_strs (by rw [← e]; exact hI)) (by rw [hvl]; exact h64) fun st' hp hs => ⟨_, rfl, ?_⟩) (args_list_sort _)))
  obtain ⟨ss, q1, q2, q3⟩ := sorted_out_str hI hp hs
  obtain ⟨c, hc⟩ := sortedHeap_at (vs := vs) (out := (arrOf st').map (·.2)) hoL
  have pn : ss.Perm (es.toList.map keyS) := q2.trans pk
  refine wpAny_pure ⟨_, rfl, hQ _ s1.heap.objs.size _ c ss (fun b u e => ?_) g1 o1 hz hc q1 (asc_of ss q3 (pn.nodup_iff.mpr nd)) (fun k => by rw [pn.mem_iff, ← hm k]) ?_⟩
  · have q := k1 b u e
    have lt := Heap.lt_size q
    show (sortedHeap (s1.heap.push (seqObj "list" vs.toArray 0)) s1.heap.objs.size vs _).get? b = some u
    rw [sortedHeap_old (Nat.ne_of_lt lt) (by rw [size_push']; exact Nat.lt_succ_of_lt lt)]
    exact Heap.get?_push_of_some _ q
  · rw [pn.length_eq, List.length_map, Array.length_toList]
    exact hn
end

def tSortedSet (K : PySem.W.Frag) (ta : TE) : TE := fun σ H Q => ta σ H fun x H1 => ∃ (l : Addr) (xs : List Str), x = .ref l ∧ SqT K H1 l (xs.map V.str) ∧ xs.length < 60 ∧ ∀ p, H1 p = none → Q (.ref p) (upd H1 p (.lst ((sortS xs).map V.str)))
section
variable {X : Cx} {W : WX}
theorem pe_sortedSet {a : Expr} {ta : TE} {p p2 q pos : Pos} (hc : X.calm = true) (hg : Gl X "sorted") (hm : X.mg "sorted" = none) (hg2 : Gl X "set") (hm2 : X.mg "set" = none) (ha : PE X a ta)
    (na : starEach [a] X.env = (false, eval a X.env) :: starEach [] X.env := by rfl) : PE X (.Call (.Name "sorted" p) [.Call (.Name "set" p2) [a] [] q] [] pos) (tSortedSet X.K ta) := by
  refine ⟨fun pins s σ H Q I h => Call_ (ld_blt I hg hm boot_sorted ?_)⟩
  refine callWith_builtin1 (args_cons ?_ rfl) rfl rfl
  refine Call_ (ld_blt I hg2 hm2 boot_set (callWith_type1 (args_cons (thn (ha.run pins s σ H _ I h) fun v s1 ⟨x, H1, I1, r1, q1⟩ => args_nil ?_) na) na rfl))
  obtain ⟨l, xs, rfl, hq, hl, q1⟩ := q1
  cases r1
  obtain ⟨its, r, pl, hz⟩ := I1.tuple hq
  refine txt_of_tuple (I1.ok.hd hc) (show s1.heap.IsTuple l its.toArray from pl) (by simpa using strsAre_of r) (by unfold scanBound; omega) fun h' tk m hm' hS hk hsz => args_nil ?_
  have I2 : Inv X pins σ H1 { s1 with heap := h', toks := tk } := I1.kept fun b o e => hk b o (Heap.lt_size e) e
  refine txt_sorted (s := { s1 with heap := h', toks := tk }) hS (I1.ok.hd hc) (by omega) fun s' p' out c ss kp eg eo hp' hob hst ha' hmem hlen => ?_
  have es : ss = sortS xs := asc_one ha' (asc_sortS xs) fun z => by rw [hmem, mem_sortS]; exact decide_eq_true_iff
  subst es
  obtain ⟨hp2, g2, d2, t2, o2⟩ := s'
  have eg : g2 = s1.gens := eg
  have eo : o2 = s1.os := eo
  subst eg eo
  have hf : H1 p' = none := I2.hok.fresh hp'
  refine ⟨.ref p', upd H1 p' (.lst ((sortS xs).map V.str)), ?_, rfl, q1 p' hf⟩
  have hlen2 : ((sortS xs).map V.str).length ≤ sizeLine := by
    rw [List.length_map, hlen, sizeLine_eq]
    omega
  refine I2.call (h' := hp2) (g' := s1.gens) (d' := d2) (t' := t2) (ch := []) (Un.laid kp hp' hf) (I2.hok.laid kp hp' ⟨hlen2, out.toList, c, vals_of_strs hst, hob⟩) I2.bare fun b z => absurd z (by simp)
def strsD : List D → Option (List Str)
  | [] => some []
  | .str x :: r => (strsD r).map (x :: ·)
  | _ => none
theorem strsD_reps {K : PySem.W.Frag} {β : Bx} {H : Hp} : ∀ {l : List D} {xs : List V} {ss : List Str}, Reps K β H xs l → strsD l = some ss → xs = ss.map V.str
  | [], _, _, r, e => by
    cases r
    cases e
    rfl
  | d :: l, _, _, r, e => by
    cases r with
    | cons r1 r2 =>
      cases d <;> simp only [strsD, reduceCtorEq] at e
      rw [Option.map_eq_some_iff] at e
      obtain ⟨ss, hs, rfl⟩ := e
      cases r1
      rw [strsD_reps r2 hs]
      rfl
theorem reps_strs {K : PySem.W.Frag} {β : Bx} {H : Hp} : ∀ (ss : List Str), Reps K β H (ss.map V.str) (ss.map D.str)
  | [] => .nil
  | x :: ss => .cons (.str x) (reps_strs ss)
def mSortedSet : D → Sto → Option D
  | .tup l, _ => match strsD l with
    | some ss => if ss.length < 60 ∧ (sortS ss).length ≤ LIM then some (.lst ((sortS ss).map D.str)) else none
    | none => none
  | _, _ => none
theorem de_sortedSet {a : Expr} {f : G D} {p p2 q pos : Pos} (hc : X.calm = true) (hg : Gl X "sorted") (hm : X.mg "sorted" = none) (hg2 : Gl X "set") (hm2 : X.mg "set" = none) (ha : DE X W a f)
    (na : starEach [a] X.env = (false, eval a X.env) :: starEach [] X.env := by rfl) : DE X W (.Call (.Name "sorted" p) [.Call (.Name "set" p2) [a] [] q] [] pos) (gUn mSortedSet f) := by
  refine PEmono (pe_sortedSet hc hg hm hg2 hm2 ha na) fun σ H Q h => ?_
  obtain ⟨β, ρ, st, hρ, hs, h⟩ := h
  refine tD_intro hρ hs (Out.sat_bind h) (fun d s1 h1 v β1 H1 e1 S1 r1 => ?_) fun _ _ q => q
  obtain ⟨d3, e, p⟩ := oout_sat h1
  cases d with
  | tup l =>
    simp only [mSortedSet] at e
    split at e
    · rename_i ss hss
      split at e
      · rename_i hz
        cases e
        cases r1 with
        | tup h1 h2 h3 =>
          refine ⟨_, ss, rfl, by rw [← strsD_reps h2 hss]; exact h1, hz.1, fun p' hp => ?_⟩
          exact p (.ref p') β1 _ (e1.trans (Ext.new hp)) (S1.fresh hp) (.lst upd_same (S1.nmem hp) (reps_strs _) (by rw [List.length_map]; exact leLIM hz.2))
      · cases e
    · cases e
  | _ => simp only [mSortedSet, reduceCtorEq] at e
end
end DL

set_option Elab.async false
set_option linter.all false
set_option maxRecDepth 100000
set_option maxHeartbeats 2000000
/-! # Running the functions of data: one row a construct, for simp -/
namespace DL
open PySem PySem.Spec L2
open PyProof.Rows hiding St
section
variable {ρ : Env} {st s1 : Sto} {d e v : D} {x y : Str} {i j : Int} {a b l : List D} {n k : Nat} {p q : Bool} {f g : G D} {fs : G (List D)} {t u : G Bool} {m m' : D → D → Sto → Option D}
def blOut (d : D) (st : Sto) : Out Bool := match d with
  | .bl k => .ok k st
  | _ => .bad
@[simp] theorem e_blOut : blOut (.bl p) st = .ok p st := rfl
@[simp] theorem e_C : gC d ρ st = .ok d st := rfl
@[simp] theorem e_V0 {r : Env} : gVar 0 (some d :: r) st = .ok d st := rfl
@[simp] theorem e_VS {z : Option D} {r : Env} : gVar (n + 1) (z :: r) st = gVar n r st := by simp [gVar]
@[simp] def kOp2 (m : D → D → Sto → Option D) (d e : D) (s2 : Sto) : Out D := oout (m d e s2) s2
@[simp] def kOp (m : D → D → Sto → Option D) (g : G D) (ρ : Env) (d : D) (s1 : Sto) : Out D := (g ρ s1).bind (kOp2 m d)
@[simp] theorem e_Op : gOp m f g ρ st = (f ρ st).bind (kOp m g ρ) := rfl
@[simp] def kUn (m : D → Sto → Option D) (d : D) (s1 : Sto) : Out D := oout (m d s1) s1
@[simp] theorem e_Un {m : D → Sto → Option D} : gUn m f ρ st = (f ρ st).bind (kUn m) := rfl
@[simp] theorem e_Nil : aNil ρ st = .ok [] st := rfl
@[simp] def kCons2 (d : D) (ds : List D) (s2 : Sto) : Out (List D) := .ok (d :: ds) s2
@[simp] def kCons (fs : G (List D)) (ρ : Env) (d : D) (s1 : Sto) : Out (List D) := (fs ρ s1).bind (kCons2 d)
@[simp] theorem e_Cons : aCons f fs ρ st = (f ρ st).bind (kCons fs ρ) := rfl
@[simp] def kCB (m : List D → Sto → Option D) (ds : List D) (s1 : Sto) : Out D := oout (m ds s1) s1
@[simp] theorem e_CB {m : List D → Sto → Option D} : gCB m fs ρ st = (fs ρ st).bind (kCB m) := rfl
@[simp] theorem e_Call {m : List D → Sto → Out D} : gCall m fs ρ st = (fs ρ st).bind m := rfl
@[simp] def kTup (ds : List D) (s1 : Sto) : Out D := if ds.length ≤ 1000 then .ok (.tup ds) s1 else .bad
@[simp] theorem e_TupD : gTupD fs ρ st = (fs ρ st).bind kTup := rfl
@[simp] def kLst (ds : List D) (s1 : Sto) : Out D := if ds.length ≤ 1000 then .ok (.lst ds) s1 else .bad
@[simp] theorem e_LstD : gLstD fs ρ st = (fs ρ st).bind kLst := rfl
@[simp] def kLstM (ds : List D) (s1 : Sto) : Out D := if ds.length ≤ 1000 then .ok (.ref s1.length) (s1 ++ [.lst ds]) else .bad
@[simp] theorem e_LstM : gLstM fs ρ st = (fs ρ st).bind kLstM := rfl
@[simp] theorem e_DctM : gDctM ρ st = .ok (.ref st.length) (st ++ [.dK []]) := rfl
@[simp] def kAnd2 (g : G D) (ρ : Env) (d : D) (k : Bool) (s1 : Sto) : Out D := if k then g ρ s1 else .ok d s1
@[simp] def kAnd (g : G D) (ρ : Env) (d : D) (s1 : Sto) : Out D := (oout (mTru d s1) s1).bind (kAnd2 g ρ d)
@[simp] theorem e_And : gAnd f g ρ st = (f ρ st).bind (kAnd g ρ) := rfl
@[simp] def kOr2 (g : G D) (ρ : Env) (d : D) (k : Bool) (s1 : Sto) : Out D := if k then .ok d s1 else g ρ s1
@[simp] def kOr (g : G D) (ρ : Env) (d : D) (s1 : Sto) : Out D := (oout (mTru d s1) s1).bind (kOr2 g ρ d)
@[simp] theorem e_Or : gOr f g ρ st = (f ρ st).bind (kOr g ρ) := rfl
@[simp] def kNot2 (k : Bool) (s1 : Sto) : Out D := .ok (.bl !k) s1
@[simp] def kNot (d : D) (s1 : Sto) : Out D := (oout (mTru d s1) s1).bind kNot2
@[simp] theorem e_Not : gNot f ρ st = (f ρ st).bind kNot := rfl
@[simp] def kTr (d : D) (s1 : Sto) : Out Bool := oout (mTru d s1) s1
@[simp] theorem e_Tr : gTr f ρ st = (f ρ st).bind kTr := rfl
@[simp] def kIf (f g : G D) (ρ : Env) (k : Bool) (s1 : Sto) : Out D := if k then f ρ s1 else g ρ s1
@[simp] theorem e_If : gIf t f g ρ st = (t ρ st).bind (kIf f g ρ) := rfl
@[simp] def kTNot (k : Bool) (s1 : Sto) : Out Bool := .ok (!k) s1
@[simp] theorem e_TNot : gTNot t ρ st = (t ρ st).bind kTNot := rfl
@[simp] def kTAnd (u : G Bool) (ρ : Env) (k : Bool) (s1 : Sto) : Out Bool := if k then u ρ s1 else .ok false s1
@[simp] theorem e_TAnd : gTAnd t u ρ st = (t ρ st).bind (kTAnd u ρ) := rfl
@[simp] def kTOr (u : G Bool) (ρ : Env) (k : Bool) (s1 : Sto) : Out Bool := if k then .ok true s1 else u ρ s1
@[simp] theorem e_TOr : gTOr t u ρ st = (t ρ st).bind (kTOr u ρ) := rfl
@[simp] theorem e_Bl : gBl f ρ st = (f ρ st).bind blOut := rfl
@[simp] def kCh3 (m' : D → D → Sto → Option D) (e e' : D) (s3 : Sto) : Out Bool := (oout (m' e e' s3) s3).bind blOut
def kCh2 (m' : D → D → Sto → Option D) (e : D) (h : G D) (ρ : Env) (k : D) (s2 : Sto) : Out Bool := match k with
  | .bl true => (h ρ s2).bind (kCh3 m' e)
  | .bl false => .ok false s2
  | _ => .bad
@[simp] theorem e_ch1 {h : G D} : kCh2 m' e h ρ (.bl true) st = (h ρ st).bind (kCh3 m' e) := rfl
@[simp] theorem e_ch0 {h : G D} : kCh2 m' e h ρ (.bl false) st = .ok false st := rfl
@[simp] theorem e_chd {h : G D} {P : Prop} [Decidable P] : kCh2 m' e h ρ (.bl (decide P)) st = if P then (h ρ st).bind (kCh3 m' e) else .ok false st := by
  by_cases c : P
  · rw [if_pos c, decide_eq_true c]
    rfl
  · rw [if_neg c, decide_eq_false c]
    rfl
@[simp] def kCh1 (m m' : D → D → Sto → Option D) (h : G D) (ρ : Env) (d e : D) (s2 : Sto) : Out Bool := (oout (m d e s2) s2).bind (kCh2 m' e h ρ)
@[simp] def kCh (m m' : D → D → Sto → Option D) (g h : G D) (ρ : Env) (d : D) (s1 : Sto) : Out Bool := (g ρ s1).bind (kCh1 m m' h ρ d)
@[simp] theorem e_Chain {h : G D} : gChain m m' f g h ρ st = (f ρ st).bind (kCh m m' g h ρ) := rfl
@[simp] def kB (k : Bool) (s1 : Sto) : Out D := .ok (.bl k) s1
@[simp] theorem e_B : gB t ρ st = (t ρ st).bind kB := rfl
@[simp] theorem e_None : gNone ρ st = .ok none st := rfl
def someOut (d : D) (st : Sto) : Out (Option Int) := match d with
  | .int i => .ok (some i) st
  | _ => .bad
@[simp] theorem e_someOut : someOut (.int i) st = .ok (some i) st := rfl
@[simp] theorem e_Some : gSome f ρ st = (f ρ st).bind someOut := rfl
@[simp] def kSl3 (d : D) (l u : Option Int) (s3 : Sto) : Out D := oout (mSl d l u s3) s3
@[simp] def kSl2 (hi : G (Option Int)) (ρ : Env) (d : D) (l : Option Int) (s2 : Sto) : Out D := (hi ρ s2).bind (kSl3 d l)
@[simp] def kSl (lo hi : G (Option Int)) (ρ : Env) (d : D) (s1 : Sto) : Out D := (lo ρ s1).bind (kSl2 hi ρ d)
@[simp] theorem e_Op3 {lo hi : G (Option Int)} : gOp3 f lo hi ρ st = (f ρ st).bind (kSl lo hi ρ) := rfl
@[simp] def kSeq (d : D) (s1 : Sto) : Out (List D) := oout (mSeq d s1) s1
@[simp] theorem e_Seq : gSeq f ρ st = (f ρ st).bind kSeq := rfl
@[simp] def kRange1 (d : List D) (s1 : Sto) : Out (List D) := oout (mRange1 d) s1
@[simp] theorem e_Range1 : gRange1 fs ρ st = (fs ρ st).bind kRange1 := rfl
@[simp] def kRange2 (d : List D) (s1 : Sto) : Out (List D) := oout (mRange2 d) s1
@[simp] theorem e_Range2 : gRange2 fs ρ st = (fs ρ st).bind kRange2 := rfl
@[simp] def kZip (d : List D) (s1 : Sto) : Out (List D) := oout (mZip d) s1
@[simp] theorem e_Zip : gZip fs ρ st = (fs ρ st).bind kZip := rfl
@[simp] theorem e_Yes : gYes ρ st = .ok true st := rfl
@[simp] def kLs (ys : List D) (s2 : Sto) : Out D := .ok (.lst ys) s2
@[simp] def kComp (vs : List Nat) (pt : Pat) (t : G Bool) (f : G D) (ρ : Env) (items : List D) (s1 : Sto) : Out D := (compGo (wipeE ρ vs) pt t f items s1).bind kLs
@[simp] theorem e_Comp {vs : List Nat} {fi : G (List D)} {pt : Pat} : gComp vs fi pt t f ρ st = (fi ρ st).bind (kComp vs pt t f ρ) := rfl
@[simp] def kLsM (ys : List D) (s2 : Sto) : Out D := .ok (.ref s2.length) (s2 ++ [.lst ys])
@[simp] def kCompM (vs : List Nat) (pt : Pat) (t : G Bool) (f : G D) (ρ : Env) (items : List D) (s1 : Sto) : Out D := (compGo (wipeE ρ vs) pt t f items s1).bind kLsM
@[simp] theorem e_CompM {vs : List Nat} {fi : G (List D)} {pt : Pat} : gCompM vs fi pt t f ρ st = (fi ρ st).bind (kCompM vs pt t f ρ) := rfl
def kgetOut (tab : List (Str × D)) (d : D) (st : Sto) : Out D := match d with
  | .str z => .ok ((tab.lookup z).getD .non) st
  | _ => .bad
@[simp] theorem e_kgetOut {tab : List (Str × D)} : kgetOut tab (.str x) st = .ok ((tab.lookup x).getD .non) st := rfl
@[simp] theorem e_KGet {tab : List (Str × D)} : gKGet tab f ρ st = (f ρ st).bind (kgetOut tab) := rfl
/-! statements -/
variable {r r' : G Fl} {fl : Fl}
@[simp] def kSet (n : Nat) (ρ : Env) (d : D) (s1 : Sto) : Out Fl := .ok (.nx (ρ.set n (some d))) s1
@[simp] theorem e_sSet : sSet n f ρ st = (f ρ st).bind (kSet n ρ) := rfl
def patOut (p : Pat) (ρ : Env) (d : D) (s1 : Sto) : Out Fl := match Pat.set p d ρ with
  | some ρ' => .ok (.nx ρ') s1
  | none => .bad
@[simp] theorem e_sPat {pt : Pat} : sPat pt f ρ st = (f ρ st).bind (patOut pt ρ) := rfl
def parOut (i j : Nat) (ρ : Env) (ds : List D) (s1 : Sto) : Out Fl := match ds with
  | [a, b] => .ok (.nx ((ρ.set i (some a)).set j (some b))) s1
  | _ => .bad
@[simp] theorem e_parOut : parOut n k ρ [d, e] st = .ok (.nx ((ρ.set n (some d)).set k (some e))) st := rfl
@[simp] theorem e_sPar : sPar n k fs ρ st = (fs ρ st).bind (parOut n k ρ) := rfl
@[simp] def kRet (d : D) (s1 : Sto) : Out Fl := .ok (.rt d) s1
@[simp] theorem e_sRet : sRet f ρ st = (f ρ st).bind kRet := rfl
@[simp] def kDrop (ρ : Env) (d : D) (s1 : Sto) : Out Fl := .ok (.nx ρ) s1
@[simp] theorem e_sDrop : sDrop f ρ st = (f ρ st).bind (kDrop ρ) := rfl
@[simp] theorem e_sNext : sNext ρ st = .ok (.nx ρ) st := rfl
@[simp] theorem e_sBreak : sBreak ρ st = .ok (.bk ρ) st := rfl
@[simp] theorem e_sCont : sCont ρ st = .ok (.ct ρ) st := rfl
def thenS (g : G Fl) (r : Fl) (s1 : Sto) : Out Fl := match r with
  | .nx ρ' => g ρ' s1
  | r => .ok r s1
@[simp] theorem e_thn : thenS r (.nx ρ) st = r ρ st := rfl
@[simp] theorem e_thr : thenS r (.rt d) st = .ok (.rt d) st := rfl
@[simp] theorem e_thb : thenS r (.bk ρ) st = .ok (.bk ρ) st := rfl
@[simp] theorem e_thc : thenS r (.ct ρ) st = .ok (.ct ρ) st := rfl
theorem sSeq_ap : sSeq r r' ρ st = (r ρ st).bind (thenS r') := by
  unfold sSeq
  congr 1
@[simp] theorem e_sSeq : sSeq r r' ρ st = (r ρ st).bind (thenS r') := sSeq_ap
@[simp] def kSIf (r r' : G Fl) (ρ : Env) (k : Bool) (s1 : Sto) : Out Fl := if k then r ρ s1 else r' ρ s1
@[simp] theorem e_sIf : sIf t r r' ρ st = (t ρ st).bind (kSIf r r' ρ) := rfl
def putOut (o i v : D) (ρ : Env) (st : Sto) : Out Fl := match mPut o i v st with
  | some s4 => .ok (.nx ρ) s4
  | none => .bad
@[simp] def kPut3 (ρ : Env) (v o i : D) (s3 : Sto) : Out Fl := putOut o i v ρ s3
@[simp] def kPut2 (fi : G D) (ρ : Env) (v o : D) (s2 : Sto) : Out Fl := (fi ρ s2).bind (kPut3 ρ v o)
@[simp] def kPut (fo fi : G D) (ρ : Env) (v : D) (s1 : Sto) : Out Fl := (fo ρ s1).bind (kPut2 fi ρ v)
@[simp] theorem e_sPut {fo fi fv : G D} : sPut fo fi fv ρ st = (fv ρ st).bind (kPut fo fi ρ) := rfl
theorem put_at (h : st[n]? = some (.lst l)) (hk : ixN l.length i = some k) : putOut (.ref n) (.int i) v ρ st = .ok (.nx ρ) (st.set n (.lst (l.set k v))) := by
  unfold putOut mPut
  simp only [h, hk, Option.map_some]
@[simp] theorem e_endr : endD (.rt d) st = .ok d st := rfl
@[simp] theorem e_endn : endD (.nx ρ) st = .ok .non st := rfl
@[simp] theorem e_Fun {ds : List D} {gg : G Fl} : gFun n gg ds st = (gg (ds.map some ++ List.replicate (n - ds.length) none) st).bind endD := rfl
@[simp] def kFor (pt : Pat) (r : G Fl) (ρ : Env) (items : List D) (s1 : Sto) : Out Fl := forGo pt r items ρ s1
@[simp] theorem e_sFor {fi : G (List D)} {pt : Pat} : sFor fi pt r ρ st = (fi ρ st).bind (kFor pt r ρ) := rfl
/-! operators -/
@[simp] theorem o_addi : mAdd (.int i) (.int j) st = some (.int (i + j)) := rfl
@[simp] theorem o_addt : mAdd (.tup a) (.tup b) st = if a.length + b.length ≤ LIM then some (.tup (a ++ b)) else none := rfl
@[simp] theorem o_addl : mAdd (.lst a) (.lst b) st = if a.length + b.length ≤ LIM then some (.lst (a ++ b)) else none := rfl
@[simp] theorem o_adds : mAdd (.str x) (.str y) st = if x.length + y.length ≤ LIM then some (.str (x ++ y)) else none := rfl
@[simp] theorem o_sub : mSub (.int i) (.int j) st = some (.int (i - j)) := rfl
@[simp] theorem o_mul : mMul (.int i) (.int j) st = if -(2 ^ 64) < j ∧ j < 2 ^ 64 then some (.int (i * j)) else none := rfl
@[simp] theorem o_mod : mMod (.int i) (.int j) st = if 0 < j then some (.int (i % j)) else none := rfl
@[simp] theorem o_fdiv : mFdiv (.int i) (.int j) st = if 0 < j ∧ j < 1073741824 then some (.int (i / j)) else none := rfl
@[simp] theorem o_pow : mPow (.int i) (.int j) st = if 0 ≤ j ∧ j ≤ 1000000 ∧ i.natAbs < 2 ^ 64 then some (.int (i ^ j.toNat)) else none := rfl
@[simp] theorem o_neg : mNeg (.int i) st = some (.int (-i)) := rfl
@[simp] theorem o_lt : mLt (.int i) (.int j) st = some (.bl (decide (i < j))) := rfl
@[simp] theorem o_le : mLe (.int i) (.int j) st = some (.bl (decide (i ≤ j))) := rfl
@[simp] theorem o_gt : mGt (.int i) (.int j) st = some (.bl (decide (j < i))) := rfl
@[simp] theorem o_ge : mGe (.int i) (.int j) st = some (.bl (decide (j ≤ i))) := rfl
@[simp] theorem o_ixt : mIx (.tup l) (.int i) st = atI l i := rfl
@[simp] theorem o_ixl : mIx (.lst l) (.int i) st = atI l i := rfl
@[simp] theorem o_ixr : mIx (.ro l) (.int i) st = atI l i := rfl
@[simp] theorem o_ixn {r : List SO} : mIx (.ref 0) (.int i) (.lst l :: r) = atI l i := rfl
@[simp] theorem o_int : mInt [.int i] st = some (.int i) := rfl
@[simp] theorem o_intb : mInt [.bl p] st = some (.int (if p then 1 else 0)) := rfl
@[simp] theorem o_lent : mLen [.tup l] st = some (.int l.length) := rfl
@[simp] theorem o_lenl : mLen [.lst l] st = some (.int l.length) := rfl
@[simp] theorem o_lenr : mLen [.ro l] st = some (.int l.length) := rfl
@[simp] theorem o_tupt : mTuple [.tup l] st = some (.tup l) := rfl
@[simp] theorem o_tupl : mTuple [.lst l] st = some (.tup l) := rfl
@[simp] theorem o_lstt : mList [.tup l] st = some (.lst l) := rfl
@[simp] theorem o_lstl : mList [.lst l] st = some (.lst l) := rfl
@[simp] theorem o_min : mMin2 [.int i, .int j] st = some (.int (if j < i then j else i)) := rfl
@[simp] theorem o_trb : mTru (.bl p) st = some p := rfl
@[simp] theorem o_tri : mTru (.int i) st = some (i != 0) := rfl
@[simp] theorem o_trn : mTru .non st = some false := rfl
@[simp] theorem o_trt : mTru (.tup l) st = some (!l.isEmpty) := rfl
@[simp] theorem o_trl : mTru (.lst l) st = some (!l.isEmpty) := rfl
@[simp] theorem o_sqt : mSeq (.tup l) st = some l := rfl
@[simp] theorem o_sql : mSeq (.lst l) st = some l := rfl
@[simp] theorem o_sqr : mSeq (.ro l) st = some l := rfl
@[simp] theorem o_rg1 : mRange1 [.int i] = if i ≤ 1000000 ∧ -1000000 ≤ i then some (intsD 0 i.toNat) else none := rfl
@[simp] theorem o_rg2 : mRange2 [.int i, .int j] = if (-1000000 ≤ i ∧ i ≤ 1000000) ∧ (-1000000 ≤ j ∧ j ≤ 1000000) then some (intsD i (j - i).toNat) else none := rfl
@[simp] theorem o_zip : mZip [.tup a, .tup b] = some (zipD a b) := rfl
@[simp] theorem o_zc : zipD (d :: a) (e :: b) = .tup [d, e] :: zipD a b := rfl
@[simp] theorem o_z0 : zipD [] b = [] := by cases b <;> rfl
@[simp] theorem o_z1 : zipD a [] = [] := by cases a <;> rfl
@[simp] theorem o_isi {s : String} : mIsi [d, .raw (.ty s)] st = match tyD d st with | some a => (isiB a s).map D.bl | none => none := rfl
@[simp] theorem o_isiT : mIsiT [d, .tup l] st = match tyD d st with | some a => (isiAny a l).map D.bl | none => none := rfl
@[simp] theorem o_isb : mIs (.bl p) (.bl q) st = some (.bl (decide (p = q))) := rfl
@[simp] theorem o_inb : mIsNot (.bl p) (.bl q) st = some (.bl (!decide (p = q))) := rfl
@[simp] theorem y_non : tyD .non st = some "NoneType" := rfl
@[simp] theorem y_bl : tyD (.bl p) st = some "bool" := rfl
@[simp] theorem y_int : tyD (.int i) st = some "int" := rfl
@[simp] theorem y_str : tyD (.str x) st = some "str" := rfl
@[simp] theorem y_tup : tyD (.tup l) st = some "tuple" := rfl
@[simp] theorem y_lst : tyD (.lst l) st = some "list" := rfl
@[simp] theorem y_ro : tyD (.ro l) st = some "list" := rfl
/-! comprehensions, loops -/
@[simp] theorem k_nil {pt : Pat} : compGo ρ pt t f [] st = .ok [] st := rfl
@[simp] theorem x_ok {α : Type} {z : α} : (Out.ok z st).nox = .ok z st := rfl
@[simp] def kCo3 (y : D) (ys : List D) (s3 : Sto) : Out (List D) := .ok (y :: ys) s3
@[simp] def kCo2 (ρ : Env) (p : Pat) (t : G Bool) (f : G D) (ds : List D) (y : D) (s2 : Sto) : Out (List D) := (compGo ρ p t f ds s2).bind (kCo3 y)
@[simp] def kCo (ρ : Env) (pt : Pat) (t : G Bool) (f : G D) (ds : List D) (ρ1 : Env) (b : Bool) (s1 : Sto) : Out (List D) := if b then (f ρ1 s1).nox.bind (kCo2 ρ pt t f ds) else compGo ρ pt t f ds s1
theorem k_nm {ds : List D} : compGo ρ (.nm n) t f (d :: ds) st = (t (ρ.set n (some d)) st).nox.bind (kCo ρ (.nm n) t f ds (ρ.set n (some d))) := by
  simp only [compGo, Pat.set]
  rfl
@[simp] theorem w_nil : wipeE ρ [] = ρ := rfl
@[simp] theorem w_cons {vs : List Nat} : wipeE ρ (n :: vs) = (wipeE ρ vs).set n none := rfl
end
theorem atI_cons0 {α : Type} {x : α} {l : List α} : atI (x :: l) 0 = some x := by simp [atI, ixN]
theorem atI_nat' {α : Type} {l : List α} {i : Int} {x : α} (h0 : 0 ≤ i) (h : l[i.toNat]? = some x) : atI l i = some x := by
  have e : i = ((i.toNat : Nat) : Int) := by omega
  rw [e]
  exact atI_nat h

@[simp] theorem atI_lit {α : Type} {l : List α} {n : Nat} : atI l (no_index (@OfNat.ofNat Int n _)) = l[n]? := by
  show atI l ((n : Nat) : Int) = l[n]?
  cases e : l[n]? with
  | some v => exact atI_nat e
  | none =>
    have hl : l.length ≤ n := List.getElem?_eq_none_iff.mp e
    unfold atI ixN
    rw [if_pos (Int.natCast_nonneg n), if_neg (by omega)]
    rfl
@[simp] theorem put_ref {l : List D} {r : List SO} {n : Nat} {v : D} {ρ : Env} (h : n < l.length) : putOut (.ref 0) (.int (no_index (@OfNat.ofNat Int n _))) v ρ (.lst l :: r) = .ok (.nx ρ) (.lst (l.set n v) :: r) := by
  have hk : ixN l.length ((n : Nat) : Int) = some n := by
    unfold ixN
    rw [if_pos (Int.natCast_nonneg n), if_pos (by omega)]
    rfl
  exact put_at (st := .lst l :: r) (n := 0) (k := n) rfl hk

/-! == and in of flat data -/
theorem char_lt (c : Char) : c.toNat < 1114112 := by
  have h := c.valid
  unfold UInt32.isValidChar Nat.isValidChar at h
  show c.val.toNat < _
  omega
theorem char_inj {a b : Char} (h : a.toNat = b.toNat) : a = b := Char.ext (UInt32.toNat_inj.mp h)
theorem chars_inj : ∀ {a b : List Char}, a.map Char.toNat = b.map Char.toNat → a = b
  | [], [], _ => rfl
  | [], _ :: _, h => by simp at h
  | _ :: _, [], h => by simp at h
  | x :: a, y :: b, h => by
    simp only [List.map_cons, List.cons.injEq] at h
    rw [char_inj h.1, chars_inj h.2]
theorem strOk_of (s : String) : PyData.strOk (Str.ofString s) = true := by
  rw [Str.ofString_eq_toList]
  unfold PyData.strOk
  rw [Array.all_eq_true']
  intro n hn
  simp only [List.mem_toArray, List.mem_map] at hn
  obtain ⟨c, _, rfl⟩ := hn
  exact decide_eq_true (char_lt c)
theorem ofString_inj {a b : String} (h : Str.ofString a = Str.ofString b) : a = b := by
  rw [Str.ofString_eq_toList, Str.ofString_eq_toList] at h
  have h1 : a.toList.map Char.toNat = b.toList.map Char.toNat := by
    have := congrArg Str.cps h
    simpa using this
  exact String.toList_inj.mp (chars_inj h1)
@[simp] theorem beq_lit (a b : String) : (Str.ofString a == Str.ofString b) = (a == b) := by
  by_cases h : a = b
  · subst h
    simp
  · rw [beq_false_of_ne h, beq_false_of_ne fun e => h (ofString_inj e)]
theorem okStr {x : Str} (h : PyData.strOk x = true) : okD (.str x) = true := by
  show (PyData.canLay0 (D.str x).py && decide ((D.str x).py.depth ≤ 64)) = true
  simp only [D.py, PyData.canLay0, PyData.depth, h]
  rfl
@[simp] theorem ok_lit (s : String) : okD (.str (Str.ofString s)) = true := okStr (strOk_of s)
@[simp] theorem ok_int {i : Int} : okD (.int i) = true := rfl
@[simp] theorem ok_bl {b : Bool} : okD (.bl b) = true := rfl
@[simp] theorem ok_non : okD .non = true := rfl
@[simp] theorem o_eq {d e : D} {st : Sto} : mEq d e st = if okD d && okD e then some (.bl (eqD d e)) else none := rfl
@[simp] theorem o_ne {d e : D} {st : Sto} : mNe d e st = if okD d && okD e then some (.bl (!eqD d e)) else none := rfl
@[simp] theorem q_int {i j : Int} : eqD (.int i) (.int j) = (i == j) := by simp [eqD, D.py, PyData.eqv]
@[simp] theorem q_str {x y : Str} : eqD (.str x) (.str y) = (x == y) := by simp [eqD, D.py, PyData.eqv]
@[simp] theorem q_bl {x y : Bool} : eqD (.bl x) (.bl y) = (x == y) := by simp [eqD, D.py, PyData.eqv]
end DL

set_option Elab.async false
set_option linter.all false
set_option maxRecDepth 100000
set_option maxHeartbeats 2000000
/-! # == and in of tuples and lists of data; rows for simp -/
namespace DL
open PySem PySem.Spec L2
open PyProof.Rows hiding St
/-- data that can be compared, not deeper than n -/
def okB (n : Nat) (d : D) : Bool := d.py.canLay0 && decide (d.py.depth ≤ n)
theorem okD_64 (d : D) : okD d = okB 64 d := rfl
theorem pys_ok : ∀ (l : List D) (n : Nat), (PyData.canLayAll0 (D.pys l) && decide (PyData.depthAll (D.pys l) ≤ n)) = l.all (okB n)
  | [], n => by simp [D.pys, PyData.canLayAll0, PyData.depthAll]
  | d :: l, n => by
    rw [List.all_cons, ← pys_ok l n]
    simp only [D.pys, PyData.canLayAll0, PyData.depthAll, okB]
    rw [show decide (max d.py.depth (PyData.depthAll (D.pys l)) ≤ n) = (decide (d.py.depth ≤ n) && decide (PyData.depthAll (D.pys l) ≤ n)) by
      rw [← Bool.decide_and]; exact decide_eq_decide.mpr Nat.max_le]
    cases d.py.canLay0 <;> cases PyData.canLayAll0 (D.pys l) <;> simp
section
variable {n : Nat} {l a b : List D} {x y : Str} {i j : Int} {p q : Bool} {d e : D}
theorem okB_seq (h : (D.py d) = .tuple (D.pys l) ∨ (D.py d) = .list (D.pys l)) : okB (n + 1) d = l.all (okB n) := by
  rw [← pys_ok l n]
  unfold okB
  rcases h with h | h <;> rw [h] <;> simp only [PyData.canLay0, PyData.depth] <;> congr 1 <;> exact decide_eq_decide.mpr (by omega)
@[simp] theorem okB_tup : okB (n + 1) (.tup l) = l.all (okB n) := okB_seq (.inl (by simp [D.py]))
@[simp] theorem okB_lst : okB (n + 1) (.lst l) = l.all (okB n) := okB_seq (.inr (by simp [D.py]))
@[simp] theorem okB_ro : okB (n + 1) (.ro l) = l.all (okB n) := okB_seq (.inr (by simp [D.py]))
@[simp] theorem okB_non : okB n .non = true := by simp [okB, D.py, PyData.canLay0, PyData.depth]
@[simp] theorem okB_bl : okB n (.bl p) = true := by simp [okB, D.py, PyData.canLay0, PyData.depth]
@[simp] theorem okB_int : okB n (.int i) = true := by simp [okB, D.py, PyData.canLay0, PyData.depth]
@[simp] theorem okB_str : okB n (.str x) = PyData.strOk x := by simp [okB, D.py, PyData.canLay0, PyData.depth]
@[simp] theorem ok_tup : okD (.tup l) = l.all (okB 63) := okB_tup (n := 63)
@[simp] theorem ok_lst : okD (.lst l) = l.all (okB 63) := okB_lst (n := 63)
@[simp] theorem ok_ro : okD (.ro l) = l.all (okB 63) := okB_ro (n := 63)
@[simp] theorem strOk_lit (s : String) : PyData.strOk (Str.ofString s) = true := strOk_of s
theorem okB_strs {ss : List Str} (h : ∀ s ∈ ss, PyData.strOk s = true) : (ss.map D.str).all (okB n) = true := by
  rw [List.all_map, List.all_eq_true]
  intro s hs
  simp [h s hs]
/-- == of two rows -/
def eqDs : List D → List D → Bool
  | [], [] => true
  | d :: a, e :: b => eqD d e && eqDs a b
  | _, _ => false
theorem eqvAll_pys : ∀ a b : List D, PyData.eqvAll (D.pys a) (D.pys b) = eqDs a b
  | [], [] => by simp [D.pys, PyData.eqvAll, eqDs]
  | [], _ :: _ => by simp [D.pys, PyData.eqvAll, eqDs]
  | _ :: _, [] => by simp [D.pys, PyData.eqvAll, eqDs]
  | d :: a, e :: b => by simp only [D.pys, PyData.eqvAll, eqDs, eqvAll_pys a b, eqD]
@[simp] theorem q_tup : eqD (.tup a) (.tup b) = eqDs a b := by simp only [eqD, D.py, PyData.eqv, eqvAll_pys]
@[simp] theorem q_lst : eqD (.lst a) (.lst b) = eqDs a b := by simp only [eqD, D.py, PyData.eqv, eqvAll_pys]
@[simp] theorem q_rol : eqD (.ro a) (.lst b) = eqDs a b := by simp only [eqD, D.py, PyData.eqv, eqvAll_pys]
@[simp] theorem q_lro : eqD (.lst a) (.ro b) = eqDs a b := by simp only [eqD, D.py, PyData.eqv, eqvAll_pys]
@[simp] theorem qs_nil : eqDs [] [] = true := rfl
@[simp] theorem qs_nc : eqDs [] (d :: b) = false := rfl
@[simp] theorem qs_cn : eqDs (d :: a) [] = false := rfl
@[simp] theorem qs_cons : eqDs (d :: a) (e :: b) = (eqD d e && eqDs a b) := rfl
theorem beqS (x y : Str) : (x == y) = decide (x = y) := by
  by_cases h : x = y
  · subst h; simp
  · rw [decide_eq_false h, beq_false_of_ne h]
theorem qs_strs : ∀ ss tt : List Str, eqDs (ss.map D.str) (tt.map D.str) = decide (ss = tt)
  | [], [] => by simp
  | [], _ :: _ => by simp
  | _ :: _, [] => by simp
  | s :: ss, t :: tt => by
    simp only [List.map_cons, qs_cons, q_str, qs_strs ss tt, List.cons.injEq, Bool.decide_and, beqS]
@[simp] theorem q_ns : eqD .non (.str x) = false := by simp [eqD, D.py, PyData.eqv]
@[simp] theorem q_sn : eqD (.str x) .non = false := by simp [eqD, D.py, PyData.eqv]
@[simp] theorem q_is : eqD (.int i) (.str x) = false := by simp [eqD, D.py, PyData.eqv]
@[simp] theorem q_si : eqD (.str x) (.int i) = false := by simp [eqD, D.py, PyData.eqv]
@[simp] theorem q_nn : eqD .non .non = true := by simp [eqD, D.py, PyData.eqv]
@[simp] theorem q_ni : eqD .non (.int i) = false := by simp [eqD, D.py, PyData.eqv]
@[simp] theorem q_in : eqD (.int i) .non = false := by simp [eqD, D.py, PyData.eqv]
@[simp] theorem q_bi : eqD (.bl p) (.int i) = ((if p then 1 else 0) == i) := by simp [eqD, D.py, PyData.eqv]
@[simp] theorem q_ib : eqD (.int i) (.bl p) = (i == (if p then 1 else 0)) := by simp [eqD, D.py, PyData.eqv]
@[simp] theorem q_ts : eqD (.tup a) (.str x) = false := by simp [eqD, D.py, PyData.eqv]
@[simp] theorem q_st : eqD (.str x) (.tup a) = false := by simp [eqD, D.py, PyData.eqv]
variable {st : Sto}
theorem in_tup : mIn p d (.tup l) st = if okD d && okD (.tup l) then some (.bl (if p then !l.any fun z => eqD z d else l.any fun z => eqD z d)) else none := by cases d <;> rfl
theorem in_lst : mIn p d (.lst l) st = if okD d && okD (.lst l) then some (.bl (if p then !l.any fun z => eqD z d else l.any fun z => eqD z d)) else none := by cases d <;> rfl
theorem in_ro : mIn p d (.ro l) st = if okD d && okD (.ro l) then some (.bl (if p then !l.any fun z => eqD z d else l.any fun z => eqD z d)) else none := by cases d <;> rfl
theorem any_strs {x : Str} : ∀ ss : List Str, ((ss.map D.str).any fun z => eqD z (.str x)) = decide (x ∈ ss)
  | [] => by simp
  | s :: ss => by
    rw [List.map_cons, List.any_cons, any_strs ss, q_str]
    simp only [List.mem_cons, Bool.decide_or, beqS]
    congr 1
    exact decide_eq_decide.mpr ⟨Eq.symm, Eq.symm⟩
@[simp] theorem i_non : mIs .non .non st = some (.bl true) := rfl
@[simp] theorem i_tn : mIs (.tup l) .non st = some (.bl false) := rfl
@[simp] theorem i_ln : mIs (.lst l) .non st = some (.bl false) := rfl
@[simp] theorem i_sn : mIs (.str x) .non st = some (.bl false) := rfl
@[simp] theorem i_in : mIs (.int i) .non st = some (.bl false) := rfl
@[simp] theorem i_bn : mIs (.bl p) .non st = some (.bl false) := rfl
@[simp] theorem i_rn : mIs (.ref n) .non st = some (.bl false) := rfl
end
section
variable {ρ : Env} {t : G Bool} {f : G D} {d e g : D} {ds : List D} {st : Sto} {n m k : Nat}
theorem k_t2 : compGo ρ (.tp [.nm n, .nm m]) t f (.tup [d, e] :: ds) st = (t ((ρ.set n (some d)).set m (some e)) st).nox.bind (kCo ρ (.tp [.nm n, .nm m]) t f ds ((ρ.set n (some d)).set m (some e))) := by
  simp only [compGo, Pat.set, Pats.set, List.length_cons, List.length_nil, if_true]
  rfl
theorem k_t3 : compGo ρ (.tp [.nm n, .nm m, .nm k]) t f (.tup [d, e, g] :: ds) st = (t (((ρ.set n (some d)).set m (some e)).set k (some g)) st).nox.bind (kCo ρ (.tp [.nm n, .nm m, .nm k]) t f ds (((ρ.set n (some d)).set m (some e)).set k (some g))) := by
  simp only [compGo, Pat.set, Pats.set, List.length_cons, List.length_nil, if_true]
  rfl
end
@[simp] theorem c_1n {d : D} {l : List D} {st : Sto} : mSl (.tup (d :: l)) (some 1) none st = some (.tup l) := by
  show some (D.tup _) = _
  congr 2
  unfold cutD
  rw [show HT.sIx (d :: l).length 0 (some 1) = 1 from by rw [show (1 : Int) = ((1 : Nat) : Int) from rfl, HT.sIx_nat]; simp, HT.sIx_none]
  simp
@[simp] theorem o_all {l : List D} {st : Sto} : mAll [.lst l] st = (bls l).map fun bs => .bl (bs.all id) := rfl
@[simp] theorem b_nil : bls [] = some [] := rfl
@[simp] theorem b_cons {b : Bool} {l : List D} : bls (.bl b :: l) = (bls l).map (b :: ·) := rfl
end DL

set_option Elab.async false
set_option linter.all false
set_option maxRecDepth 100000
set_option maxHeartbeats 2000000
/-! # A law's end: the script, what the text has written -/
namespace DL
open PySem PySem.Spec L2
open PyProof.Rows hiding St
def spL (K : PySem.W.Frag) (m : List D → Sto → Out D) : Sp := fun vs H Q _ => ∃ β ds st, Reps K β H vs ds ∧ StoOk K β H st ∧ vs.length = 1 ∧ (m ds st).sat (PostV K Q β H) (fun _ _ => False)
section
variable {P : Program} {w : World} {K : PySem.W.Frag} {mg : Str → Option Value} {base : Heap} {m : List D → Sto → Out D}
theorem spL.to {vs : List V} {H : Hp} {Q : VK} {E : XK} (h : spL K m vs H Q E) : spD K mg 1 m vs H Q E := by
  obtain ⟨β, ds, st, r, S, hl, q⟩ := h
  exact ⟨β, ds, st, r, S, hl, q.mono (fun _ _ z => z) fun _ _ z => z.elim⟩
theorem FnD.law {k : Nat} {f : Addr} {fd : FuncData} {x : Str} (F : FnD P w K mg base k f fd [x] m) : FnOk P w K mg base (L2.CX P w) k f fd [x] (spL K m) := FnOk.imp F fun _ _ _ _ h => h.to
theorem reps_ints {β : Bx} {H : Hp} : ∀ ns : List Int, Reps K β H (ns.map V.int) (ns.map D.int)
  | [] => .nil
  | n :: ns => .cons (.int n) (reps_ints ns)
theorem spL_of (e : ∀ ns : List Int, ∃ st, m [.ro (ns.map D.int)] [] = .ok (.bl true) st) {H : Hp} {a : Addr} {ns : List Int} (hl : ns.length ≤ 63) (O : Only H) (S : SqL K H a (ns.map V.int)) : spL K m [.ref a] H (fun v _ => v = .bl true) fun _ _ _ => False := by
  obtain ⟨st, h⟩ := e ns
  have SR : SqR K H a (ns.map V.int) := by
    rcases S with (h1 | h1) | h1
    · rcases O a with h2 | ⟨o, xs, h2⟩ <;> rw [h1] at h2 <;> cases h2
    · exact .inl h1
    · exact .inr h1
  refine ⟨⟨[], []⟩, [.ro (ns.map D.int)], [], .cons (.ro SR (reps_ints ns) (by rw [List.length_map]; exact Nat.le_trans hl (by decide))) .nil, ⟨rfl, List.nodup_nil, fun n a o h1 => by simp at h1, fun p hp => by cases hp⟩, rfl, ?_⟩
  rw [h]
  intro v β' H' _ _ r
  cases r
  rfl
theorem cx_no {H : Hp} {s : Shared} {e : Value} {s' : Shared} (h : L2.CX P w [] H s (fun _ _ _ => False) e s') : False := by
  obtain ⟨_, _, _, _, _, _, _, _, _, _, _, _, z⟩ := h
  exact z
/-- a table as it is written: its entries, what each is -/
inductive TabAt (K : PySem.W.Frag) : List DictEntry → List (Str × D) → Prop
  | nil : TabAt K [] []
  | cons {h : Int} {x : Str} {t : Tok} {u : Value} {v : V} {d : D} {es : List DictEntry} {tab : List (Str × D)} (r : RelV v u) (q : ∀ β H, Rep K β H v d) (z : TabAt K es tab) : TabAt K (⟨h, .str x t, u⟩ :: es) ((x, d) :: tab)
theorem tab_none : ∀ {es : List DictEntry} {tab : List (Str × D)}, TabAt K es tab → es.any (·.refKey) = false
  | _, _, .nil => rfl
  | _, _, .cons _ _ z => by
    rw [List.any_cons, tab_none z]
    rfl
theorem tab_find (z : Str) : ∀ {es : List DictEntry} {tab : List (Str × D)}, TabAt K es tab → match tab.lookup z with
    | some x => ∃ e v, es.find? (·.key.isStr z) = some e ∧ RelV v e.val ∧ ∀ β H, Rep K β H v x
    | none => es.find? (·.key.isStr z) = none
  | _, _, .nil => rfl
  | _, _, .cons (x := x) (t := t) (u := u) (v := v) (h := h) r q y => by
    rw [List.lookup_cons, List.find?_cons]
    by_cases e : x = z
    · subst e
      rw [beq_self_eq_true]
      have : (Value.str x t).isStr x = true := by
        show (x == x) = true
        exact beq_self_eq_true x
      simp only [this]
      exact ⟨_, v, rfl, r, q⟩
    · have e1 : (z == x) = false := beq_false_of_ne (Ne.symm e)
      have e2 : (Value.str x t).isStr z = false := by
        show (x == z) = false
        exact beq_false_of_ne e
      simp only [e1, e2]
      exact tab_find z y
theorem ktab_of {d : Addr} {c : Value} {dd : Option Addr} {es : Array DictEntry} {n : Nat} {sl : Array (Option Value)} {tab : List (Str × D)} (l : K.lookup d = some ⟨c, dd, .dict es n, sl⟩) (h : TabAt K es.toList tab) : KTab K d tab := by
  intro z
  have f := tab_find z h
  unfold PySem.W.nsIn
  rw [l]
  cases q : tab.lookup z with
  | some x =>
    rw [q] at f
    obtain ⟨e, v, h1, h2, h3⟩ := f
    simp only [h1]
    exact ⟨_, rfl, _, v, rfl, h2, h3⟩
  | none =>
    rw [q] at f
    simp only [show es.toList.find? (·.key.isStr z) = none from f, tab_none h]
    exact ⟨none, rfl, rfl⟩
/-- a tuple that the text has written -/
theorem rep_ktup {a : Addr} {dd : Option Addr} {its : Array Value} {n : Nat} {sl : Array (Option Value)} {xs : List V} {ds : List D} (l : K.lookup a = some ⟨.type "tuple", dd, .seq its n, sl⟩) (r : Vals xs its.toList) (q : ∀ β H, Reps K β H xs ds) (hl : ds.length ≤ 1000) (β : Bx) (H : Hp) : Rep K β H (.ref a) (.tup ds) := by
  have e1 : its.size = ds.length := by
    rw [← (q β H).length, r.length]
    simp
  exact .tup (.inr ⟨_, its, n, l, rfl, rfl, by rw [e1]; exact Nat.le_trans hl (by decide), r⟩) (q β H) (Nat.le_trans hl (by decide))
end
end DL

set_option Elab.async false
set_option linter.all false
set_option maxRecDepth 100000
set_option maxHeartbeats 2000000
/-! # Errors of one's own, a lambda handed to a def that tells what it raises -/
namespace DL
open PySem PySem.Spec L2
open PyProof.Rows hiding St
open LamX hiding takes0
/-! ### raise -/
def sRaise (c : Str) : G Fl := fun _ st => .exn ⟨c, none⟩ st
/-- an error's class of the text, over ValueError, without an __init__ of its own; B: the one that is caught -/
structure XC (K : PySem.W.Frag) (mg : Str → Option Value) (n : Str) (B : Addr) (a : Addr) : Prop where
  g : mg n = some (.ref a)
  ex : PySem.W.excIn K a [.type "ValueError", .type "Exception", .type "BaseException", .type "object"] "ValueError.__new__" = true
  kp : PySem.W.keepIn K (.ref a) = true
  b : PySem.W.subIn K (.ref a) (.type "BaseException") = some true
  t : PySem.W.typeIn K (.ref a) = some (.type "type")
  is : ExcC K a
  up : PySem.W.exmOne K (.ref a) (.ref B) = some true
section
variable {X : Cx} {W : WX} {B a : Addr}
theorem ds_raise {x m : Str} {j : Nat} {p p2 pos pos' : Pos} (hc : X.calm = true) (tk : Takes X W) (C : XC X.K X.mg x B a) (hg : Gl X x) (hdb : (x == ("__debug__" : Str)) = false := by decide) : DS X W (.Raise (some (.Call (.Name x p) [.Constant (.str m) j p2] [] pos)) none pos') (sRaise x) := by
  refine PSmono (ps_raise hc tk (pmk_own PySem.F.excBase_ValueError C.ex C.g C.kp (raises_own C.b C.t) hg hdb)) fun D' σ H h => ?_
  obtain ⟨β, ρ, st, hρ, hs, h⟩ := h
  exact h (.ref a) none σ β H (Ext.refl β H) hs ⟨C.g, rfl⟩
end
/-! ### what the clause gives back, by the error's class -/
def SE (Y : Cx) (i : Nat) (a : Addr) (e : Expr) (v : V) : Prop := PE Y e (fun σ H Q => σ[i]? = some (some (.ref a)) ∧ Q v H)
section
variable {Y : Cx} {i : Nat} {a D : Addr} {t u w : Expr} {v v' : V} {pos p p1 p2 : Pos} {b : Bool}
theorem se_str {x : Str} {j : Nat} : SE Y i a (.Constant (.str x) j pos) (.str x) := PEmono pe_str fun _ _ _ h => h.2
theorem se_is {e C : Str} {c : Addr} (hc : CallR Y (.builtin "isinstance") (rIsE Y.K D a)) (hN : Y.N[i]? = some e) (hv : Vis Y.env.scope e) (hg : Gl Y "isinstance") (hm : Y.mg "isinstance" = none) (hC : Gl Y C) (gC : Y.mg C = some (.ref c)) (hk : PySem.W.kitOne Y.K (.ref D) (.ref c) = some b)
    (hd : (e == ("__debug__" : Str)) = false := by decide) (hd2 : (e == ("__classdict__" : Str)) = false := by decide) (hd3 : (C == ("__debug__" : Str)) = false := by decide) :
    SE Y i a (.Call (.Name "isinstance" p) [.Name e p1, .Name C p2] [] pos) (.bl b) :=
  PEmono (pe_callB hc hg hm (by decide +kernel) (pa_cons (pe_var (i := i) hN hv hd hd2) (pa_cons (pe_glob hC gC (v := .ref c) rfl hd3) pa_nil))) fun σ H Q h =>
    ⟨.ref a, h.1, .ref c, .ref c, b, rfl, fun u r => r, hk, h.2⟩
theorem se_if (ht : SE Y i a t (.bl b)) (hu : b = true → SE Y i a u v) (hw : b = false → SE Y i a w v) (he : ∀ whole, isTrue t Y.env whole = (do let v ← whole; standAt t.pos; holding [v] (truthy v)) := by exact fun _ => rfl) : SE Y i a (.IfExp t u w pos) v := by
  refine ⟨fun pins s σ H Q I h => ?_⟩
  refine wpAny_IfExp (thn ((pt_truth ht he).run pins s σ H (fun k H' => k = b ∧ H' = H) I ⟨h.1, b, rfl, rfl, rfl⟩) fun d s1 ⟨H1, I1, q1⟩ => ?_)
  obtain ⟨rfl, rfl⟩ := q1
  cases d with
  | true => exact (hu rfl).run pins s1 σ _ Q I1 h
  | false => exact (hw rfl).run pins s1 σ _ Q I1 h
end
/-! ### try: work() except B as e: return .. / return .. -/
/-- what it makes of the lambda's reading: R: what an error's class is told as -/
def TTw (K : PySem.W.Frag) (CS : Addr) (R : Addr → V → Prop) (z : V) : (XK → Hp → VK → Prop) → Hp → VK → Prop := fun tl H Q =>
  tl (fun cls d H' => ∃ D v, cls = .ref D ∧ d = none ∧ R D v ∧ PySem.W.exmOne K cls (.ref CS) = some true ∧ Q v H') H fun _ H' => Q z H'
section
variable {X : Cx}
theorem wrong_gives {Ng : List Str} {x a e n q : Str} {sg : Scope} {g CS : Addr} {cdg : Value} {p1 p2 p3 p4 p6 p7 p8 p10 : Pos} {ret out : Expr} {z : V} {R : Addr → V → Prop}
    (hge : sg.names.lookup e = some .globalImplicit) (hme : X.mg e = some (.ref CS)) (hde : (e == ("__debug__" : Str)) = false) (h0 : ∀ f : Addr, (L2.start Ng [V.ref f])[0]? = some (some (V.ref f)))
    (hN : Ng.Nodup) (hi : Ng[1]? = some n) (hln : ∀ (A : Around) (s : Shared) (H : Hp), (cxOf C8.CX0 X.prog X.w X.K X.mg X.base Ng x sg g cdg A X.stack s H C8.E0).nox.env.kindOf n = some .local)
    (hout : ∀ (Y : Cx), PE Y out (tC z))
    (hret : ∀ (A : Around) (s : Shared) (H : Hp) (b D : Addr) (oe : Obj) (pn : List (Addr × Obj)) (v : V), Zc (.ref D) none oe → (∃ vs, oe.data = .fields vs) → R D v →
      SE ((cxOf C8.CX0 X.prog X.w X.K X.mg X.base Ng x sg g cdg A X.stack s H C8.E0).nox.suite b ((b, oe) :: pn)) 1 b ret v)
    (hsw : ∀ (env : PySem.Env), swapsWith (.Call (.Name a p1) [] [] p2) none p3.line env = pure false := by intro _; rfl) :
    GivesTo X Ng x sg g cdg [.Try [.Expr (.Call (.Name a p1) [] [] p2) p3] [.ExceptHandler (some (.Name e p4)) (some n) [.Return (some ret) p6] p7] [] [] p8, .Return (some out) p10] a q (TTw X.K CS R z) := by
  intro f c' s H Q tl act hc h
  have hgl : Gl (cxOf C8.CX0 X.prog X.w X.K X.mg X.base Ng x sg g cdg X.A X.stack s H C8.E0).nox e := hge
  let ts : Addr → Value → Option Addr → TS := fun b cls d D' σ H => ∃ D v, cls = .ref D ∧ d = none ∧ R D v ∧ (∃ σ' : L2.St, σ = List.set σ' 1 (some (.ref b))) ∧ D'.rt v H
  refine ⟨_, pss_cons (ps_try_as (X := (cxOf C8.CX0 X.prog X.w X.K X.mg X.base Ng x sg g cdg X.A X.stack s H C8.E0).nox) (c := .ref CS) (i := 1) (ts := ts)
      (tb := fun W D σ H => ∃ Ech : XK, (∀ cls d σ' H', Ech cls d H' → W cls d σ' H') ∧ σ[0]? = some (some (.ref f)) ∧ H c' = some (CodeO c' q) ∧ tl Ech H (fun _ H' => D.nx σ H'))
      rfl rfl hN hi (hln X.A s H) ⟨hgl, hde, .inl hme⟩ takes0 (fun W pn xe tk _ => ?_) (fun b oe cls d pn hz hd => ?_)) (pss_one (ps_ret (hout _))), ?_⟩
  · refine ⟨fun pins s' σ H' D I h' => ?_⟩
    obtain ⟨Ech, hW, h1, h2, h3⟩ := h'
    have hp := act W pn xe Ech p1 p2 tk hW
    have hq := pss_one (ps_expr (pos := p3) hp (hsw _))
    exact hq.run pins s' σ H' D I ⟨h1, h2, h3⟩
  · refine ⟨fun pins s' σ H' D' I h' => ?_⟩
    obtain ⟨D, v, rfl, rfl, hR, ⟨σ', hσ⟩, q⟩ := h'
    have hl : σ.length = Ng.length := I.len
    have h1 : σ[1]? = some (some (.ref b)) := by
      rw [hσ, List.length_set] at hl
      rw [hσ, List.getElem?_set_self (by rw [hl]; exact (List.getElem?_eq_some_iff.mp hi).1)]
    exact (pss_one (ps_ret (hret X.A s H b D oe pn v hz hd hR))).run pins s' σ H' D' I ⟨h1, q⟩
  · refine ⟨fun cls d H' => ∃ D v, cls = .ref D ∧ d = none ∧ R D v ∧ PySem.W.exmOne X.K cls (.ref CS) = some true ∧ Q v H', fun cls d σ' H' ⟨D, v, e1, e2, e3, e4, e5⟩ => ⟨true, e4, fun _ b _ => ⟨D, v, e1, e2, e3, ⟨σ', rfl⟩, e5⟩, fun hb => by cases hb⟩, h0 f, hc, h⟩
end
theorem ext_lam {β : Bx} {H H1 : Hp} (e : ExtN H H1) : Ext β H β H1 :=
  ⟨⟨[], by simp, by simp⟩, rfl, fun b o _ h n => e b o h n, fun b xs h => e b _ h (fun _ z => by cases z), fun b o u h => e b _ h (fun _ z => by cases z), fun b o h n => ⟨o, e b o h n, n⟩, fun c q h => e c _ h fun ps => codeO_ne ps⟩
theorem StoOk.lam {K : PySem.W.Frag} {β : Bx} {H H1 : Hp} {st : Sto} {P : Addr} {q : Str} (S : StoOk K β H st) (e : ExtN H H1) (t : Tabs [(P, q)] H1) (h0 : st[0]? = Option.some (.tab q)) (hP : tabAddr K = P) : StoOk K β H1 st := by
  have ex := ext_lam (β := β) e
  have hl : 0 < β.lo.length := by
    rw [S.len]
    exact (List.getElem?_eq_some_iff.mp h0).1
  obtain ⟨p0, hp0⟩ : ∃ p0, β.lo[0]? = Option.some p0 := ⟨_, List.getElem?_eq_getElem hl⟩
  obtain ⟨hp, _⟩ := S.obj 0 p0 _ hp0 h0
  refine ⟨S.len, S.nd, fun n a o h1 h2 => ?_, fun p hp => let ⟨u, hu, n⟩ := S.priv p hp; ⟨u, e _ _ hu n, n⟩⟩
  have r := S.obj n a o h1 h2
  cases o with
  | lst ds => obtain ⟨xs, h, r⟩ := r; exact ⟨xs, e _ _ h fun _ z => (by cases z), Reps.ext ex _ _ r⟩
  | dK kvs => obtain ⟨vs, h, l, k, r⟩ := r; exact ⟨vs, e _ _ h fun _ z => (by cases z), l, k, Reps.ext ex _ _ r⟩
  | tab q' =>
    have hn : n = 0 := by
      obtain ⟨z1, e1⟩ := List.getElem?_eq_some_iff.mp h1
      obtain ⟨z2, e2⟩ := List.getElem?_eq_some_iff.mp hp0
      exact (List.getElem_inj S.nd).mp (e1.trans (r.1.trans (hp.symm.trans e2.symm)))
    subst hn
    rw [h0] at h2
    cases h2
    refine ⟨r.1, ?_⟩
    rw [r.1, hP]
    exact t _ (List.mem_singleton.mpr rfl)
/-- work handed to the def that tells what it raises; tw: the errors' words, dz: if nothing is raised -/
def gWrong (q : Str) (tw : List (Str × D)) (dz : D) (gb : G D) : G D := fun ρ (st : Sto) => match st[0]? with
  | some (SO.tab q') => if q' = q then (match gb ρ st with
    | .ok _ s1 => .ok dz s1
    | .exn x s1 => (match x.fld, tw.lookup x.cls with
      | none, some d => .ok d s1
      | _, _ => .bad)
    | .bad => .bad) else .bad
  | _ => .bad
/-- the name of a lambda of the law's -/
def lawQ : Str := ("law" : Str) ++ (".<locals>." : Str)
def lamQ : Str := lawQ ++ ("<lambda>" : Str)
section
variable {X : Cx} {W : WX}
theorem de_wrong {x a : Str} {stg : Stmt} {g : Addr} {fdg : FuncData} {Ng : List Str} {CS : Addr} {R : Addr → V → Prop} {z : V} {c P : Addr} {k : Nat} {params : Arguments} {body : Expr} {scope : Scope} {p lpos pos : Pos} {tw : List (Str × D)} {dz : D} {gb : G D}
    (F : Fun X.K x x stg g fdg) (hb : L2.Binds X.K fdg [a] []) (Sg : FnScope Ng [a] (defScope stg)) (hNg : Ng[0]? = some a) (hva : Vis (defScope stg) a) (hg : Gl X x) (hm : X.mg x = some (.ref g))
    (hG : ∀ cdv, GivesTo X Ng x (defScope stg) g cdv (defBody stg) a (X.env.qual ++ "<lambda>") (TTw X.K CS R z))
    (TB : TabB X.base X.mg c P) (hcode : X.env.code = .ref c) (hP : tabAddr X.K = P) (hr : Room (k + 2) X.A) (L : LamS X.env.scope scope) (hdef : defaultsOf params X.env = ([], []))
    (hbind : ∀ (q : Str) (cl : List (Str × Addr)) (pm cv ctv : Value), bindArgs (PySem.W.kla_fn "<lambda>" q params body scope cl pm cv ctv) ⟨[], []⟩ = pure [])
    (ht : ∀ n d, tw.lookup n = some d → ∃ D v, X.mg n = some (.ref D) ∧ (∀ β H, Rep X.K β H v d) ∧ R D v ∧ PySem.W.exmOne X.K (.ref D) (.ref CS) = some true) (hz : ∀ β H, Rep X.K β H z dz)
    (hq : X.env.qual = lawQ)
    (hbody : ∀ (A : Around) (outer : List PySem.Env) (s : Shared) (H : Hp) (E : XK) (f c' : Addr), Room k (A.deeper (lamEnv X scope s.heap.objs.size f c')) → DE (lamCx X A outer s H E scope f c') (WE' E) body gb)
    (hdb : (x == ("__debug__" : Str)) = false := by decide) (hd : (a == ("__debug__" : Str)) = false := by decide) (hcd : (a == ("__classdict__" : Str)) = false := by decide) :
    DE X W (.Call (.Name x p) [.Lambda params body scope lpos] [] pos) (gWrong lamQ tw dz gb) := by
  have eq : X.env.qual ++ ("<lambda>" : Str) = lamQ := by
    rw [hq]
    rfl
  rw [eq] at hG
  obtain ⟨oc, od, kV, doc, pm, an, cdv, ct, osl, rfl, lk, hcg⟩ := F.ex
  refine PEmono (pe_lamcall (T := [(P, lamQ)]) (t := fun E => tD X.K X.mg (WE' E) gb) hg hm F.kp lk hcg hb Sg hNg hva (by rw [eq]; exact hG cdv) TB hcode (by rw [eq]; exact List.mem_singleton.mpr rfl) (fun p hp _ => by rw [List.mem_singleton.mp hp, eq]) hr L hdef hbind (fun A outer s H E f c' h => hbody A outer s H E f c' h) hdb hd hcd) fun σ H Q h => ?_
  obtain ⟨β, ρ, st, hρ, hs, h⟩ := h
  unfold gWrong at h
  split at h
  · rename_i q' h0
    split at h
    · rename_i hq
      subst hq
      have hl : 0 < β.lo.length := by
        rw [hs.len]
        exact (List.getElem?_eq_some_iff.mp h0).1
      obtain ⟨p0, hp0⟩ : ∃ p0, β.lo[0]? = some p0 := ⟨_, List.getElem?_eq_getElem hl⟩
      obtain ⟨hpa, htab⟩ := hs.obj 0 p0 _ hp0 h0
      rw [hpa, hP] at htab
      refine ⟨fun y hy => by rw [List.mem_singleton.mp hy]; exact htab, fun H1 eN T1 => ?_⟩
      have ex := ext_lam (β := β) eN
      refine ⟨β, ρ, st, hρ.ext ex, hs.lam eN T1 h0 hP, ?_⟩
      cases e : gb ρ st with
      | bad => rw [e] at h; exact h.elim
      | ok d s1 =>
        rw [e] at h
        exact fun v β' H' e' S' r' => h z β' H' (ex.trans e') S' (hz _ _)
      | exn y s1 =>
        rw [e] at h
        refine fun cls dd β' H' e' S' xr => ?_
        have h : Out.sat (match y.fld, tw.lookup y.cls with
          | none, some d => Out.ok d s1
          | _, _ => Out.bad) (PostV X.K Q β H) _ := h
        split at h
        · rename_i d hf hd'
          obtain ⟨D, v, g1, g2, g3, g4⟩ := ht _ _ hd'
          obtain ⟨m1, m2⟩ := xr
          rw [g1] at m1
          cases m1
          rw [hf] at m2
          exact ⟨D, v, rfl, m2, g3, g4, h v β' H' (ex.trans e') S' (g2 _ _)⟩
        · exact h.elim
    · exact h.elim
  · exact h.elim
end
end DL

set_option Elab.async false
set_option linter.all false
set_option maxRecDepth 100000
set_option maxHeartbeats 2000000
/-! # A written table that is looked up on the spot; a tuple many times over -/
namespace DL
open PySem PySem.Spec L2
open PyProof.Rows hiding St
open LamX hiding takes0
def gTabIx (tab : List (Str × Str)) (f : G D) : G D := fun ρ st => (f ρ st).bind fun d s1 => match d with
  | .str z => oout ((tab.lookup z).map D.str) s1
  | _ => .bad
def keyOfS (p : Str × Str) : Key × V := (.inr p.1, .str p.2)
theorem valV_tab (z : Str) : ∀ tab : List (Str × Str), valV (tab.map keyOfS) (.inr z : Key) = (tab.lookup z).map V.str
  | [] => rfl
  | (a, b) :: tab => by
    have ih := valV_tab z tab
    rw [List.map_cons, List.lookup_cons]
    by_cases e : a = z
    · subst e
      rw [valV_pos (p := keyOfS (a, b)) (k := (.inr a : Key)) rfl, beq_self_eq_true]
      rfl
    · rw [show (z == a) = false from beq_false_of_ne (Ne.symm e)]
      unfold valV at ih ⊢
      rw [List.find?_cons]
      rw [show decide ((keyOfS (a, b)).1 = (.inr z : Key)) = false from decide_eq_false fun q => e (Sum.inr.inj q)]
      exact ih
def tabExprs : List (Str × Str) → List (Nat × Pos × Nat × Pos) → List (Option Expr) × List Expr
  | (a, b) :: t, (i, p, j, q) :: r => let x := tabExprs t r; (some (.Constant (.str a) i p) :: x.1, .Constant (.str b) j q :: x.2)
  | _, _ => ([], [])
def tabTrs : List (Str × Str) → List (TE × TE)
  | [] => []
  | (a, b) :: t => (tC (.str a), tC (.str b)) :: tabTrs t
section
variable {X : Cx} {W : WX} {pos pos2 : Pos} {e : Expr} {f : G D} {k : Nat}
theorem pps_str {a b : Str} {i j : Nat} {p q : Pos} {ks : List (Option Expr)} {vs : List Expr} {t : List (Str × Str)} (h : PPs X pos ks vs (tabTrs t)) : PPs X pos (some (.Constant (.str a) i p) :: ks) (.Constant (.str b) j q :: vs) (tabTrs ((a, b) :: t)) := pps_cons pe_str pe_str h
theorem tabPairs : ∀ (t : List (Str × Str)) (σ : St) (H : Hp) (Q : List (V × V) → Hp → Prop), Q (t.map fun p => (V.str p.1, V.str p.2)) H → tPairs (tabTrs t) σ H Q
  | [], _, _, _, q => q
  | (a, b) :: t, σ, H, Q, q => tabPairs t σ H _ q
theorem de_tabIx {tab : List (Str × Str)} {ks : List (Option Expr)} {vs : List Expr} (hr : Room k X.A) (h : PPs X pos ks vs (tabTrs tab)) (hm : mergeK [] (tab.map keyOfS) = tab.map keyOfS) (h15 : tab.length ≤ 15) (he : DE X W e f)
    (hall : ks.all (·.isSome) = true := by rfl) (hl : ks.length = vs.length := by rfl) (h0 : ks ≠ [] := by exact fun z => by cases z) (hk15 : ks.length ≤ 15 := by decide) (hs : NoSl e := by exact fun _ _ => rfl) :
    DE X W (.Subscript (.Dict ks vs pos) e pos2) (gTabIx tab f) := by
  refine PEmono (pe_dget (hu_of hr) (pe_disp h hall hl h0 hk15) he hs) fun σ H Q h => ?_
  obtain ⟨β, ρ, st, hρ, hst, h⟩ := h
  intro p hp
  refine tabPairs tab σ _ _ ⟨upd_same, tab.map keyOfS, ?_, by rw [List.length_map]; exact h15, ?_⟩
  · rw [List.map_map]
    exact List.map_congr_left fun x _ => rfl
  rw [hm]
  have e0 : upd (upd H p (.dK [])) p (.dK (tab.map keyOfS)) = upd H p (.dK (tab.map keyOfS)) := by
    funext b
    by_cases hb : b = p
    · rw [hb, upd_same, upd_same]
    · rw [upd_ne hb, upd_ne hb, upd_ne hb]
  rw [e0]
  have ex : Ext β H β (upd H p (.dK (tab.map keyOfS))) := Ext.new hp
  refine tD_intro (hρ.ext ex) (hst.fresh hp) ((Out.sat_bind h).mono (fun d s1 q => q) fun _ _ q => q.ext ex) (fun d s1 h1 v β1 H1 e1 S1 r1 => ?_) fun _ _ q => q
  split at h1
  · rename_i z
    cases r1
    obtain ⟨d3, q, p3⟩ := oout_sat h1
    cases hz : tab.lookup z with
    | none => rw [hz] at q; cases q
    | some y =>
      rw [hz] at q
      cases q
      have hd : H1 p = some (.dK (tab.map keyOfS)) := e1.keep _ _ (hst.nmem hp).1 upd_same fun _ z => by cases z
      refine ⟨p, .str y, rfl, ?_, p3 (.str y) β1 H1 (ex.trans e1) S1 (.str y)⟩
      have := DGet.k (kvs := tab.map keyOfS) (k := (.inr z : Key)) hd
      rw [valV_tab, hz] at this
      exact this
  · exact h1.elim
end
/-! ### xs * k of a tuple -/
def mRep : D → D → Sto → Option D
  | .tup l, .int k, _ => if l ≠ [] ∧ 2 ≤ k ∧ k ≤ 1000 ∧ l.length ≤ 1000 then some (.tup (List.replicate k.toNat l).flatten) else none
  | _, _, _ => none
theorem Reps.rep {K : PySem.W.Frag} {β : Bx} {H : Hp} {xs : List V} {l : List D} (r : Reps K β H xs l) : ∀ n, Reps K β H (List.replicate n xs).flatten (List.replicate n l).flatten
  | 0 => .nil
  | n + 1 => by
    rw [List.replicate_succ, List.replicate_succ, List.flatten_cons, List.flatten_cons]
    exact r.append (Reps.rep r n)
theorem Reps.repLen {l : List D} : ∀ n, (List.replicate n l).flatten.length = n * l.length
  | 0 => by simp
  | n + 1 => by
    rw [List.replicate_succ, List.flatten_cons, List.length_append, Reps.repLen n, Nat.succ_mul]
    omega
theorem od_rep {K : PySem.W.Frag} : OpD K (rRepT K) mRep := by
  intro β H st x y dx dy d Q rx ry S e q
  cases dx <;> cases dy <;> simp only [mRep, reduceCtorEq] at e
  case tup.int l k =>
    split at e
    · rename_i hz
      obtain ⟨h0, h1, h2, h3⟩ := hz
      have e := Option.some.inj e
      subst e
      cases ry
      cases rx with
      | tup hT r hl =>
        refine ⟨_, k, _, rfl, rfl, hT, ?_, h1, h2, by rw [r.length]; exact h3, fun p hp => ?_⟩
        · intro z
          subst z
          cases r
          exact h0 rfl
        · refine q _ _ (same_new hp) (.tup (.inl (.inl upd_same)) ((Reps.ext (Ext.new hp) _ _ r).rep _) ?_)
          rw [Reps.repLen]
          have : k.toNat ≤ 1000 := by omega
          exact Nat.le_trans (Nat.mul_le_mul this h3) (by rw [sizeLine_eq]; decide)
    · cases e
/-! ### a def whose code object's table is known: lambdas are made in it -/
structure LawT (K : PySem.W.Frag) (mg : Str → Option Value) (base : Heap) (st : Stmt) (f : Addr) (fd : FuncData) where
  c : Addr
  ex : ∃ (oc : Value) (od : Option Addr) (kV doc pm : Value) (an : Option Addr) (ct : Value) (osl : Array (Option Value)),
    fd = PySem.W.fnOf "law" "law" (defArgs st) (defBody st) (defScope st) .none kV doc pm an (.ref c) ct ∧ K.lookup f = some ⟨oc, od, .func fd, osl⟩ ∧ PySem.W.codeIn K (.ref c) "law" = true
  tb : TabB base mg c (tabAddr K)
section
variable {P : Program} {w : World} {K : PySem.W.Frag} {mg : Str → Option Value} {base : Heap}
theorem fnD_ofC {st : Stmt} {f : Addr} {fd : FuncData} {N ps : List Str} {k : Nat} {g : G Fl} (F : LawT K mg base st f fd) (S : FnScope N ps (defScope st))
    (hb : ∀ (A : Around) (outer : List PySem.Env) (s : Shared) (H : Hp) (E : XK), Room k (A.deeper (envOfC "law" (defScope st) s.heap.objs.size f (.ref F.c))) →
      DSs (cxOf (L2.CX P w) P w K mg base N "law" (defScope st) f (.ref F.c) A outer s H E) (WE' E) (defBody st) g) : FnD P w K mg base (k + 1) f fd ps (gFun N.length g) := by
  obtain ⟨c, ⟨oc, od, kV, doc, pm, an, ct, osl, rfl, lk, hcd⟩, tb⟩ := F
  refine fn_of lk hcd S (fun vs H Q E h => ?_) (fun A outer s H vs Q E hr h => ?_)
  · obtain ⟨β, ds, st, r, S, hl, h⟩ := h
    exact hl
  · obtain ⟨β, ds, st, r, S, hl, h⟩ := h
    refine ⟨_, hb A outer s H E hr, β, _, st, start_env r, S, (Out.sat_bind h).mono (fun r s1 q => ?_) fun _ _ q => fun c d σ β' H' e S r => q c d β' H' e S r⟩
    cases r with
    | nx ρ => exact fun σ β' H' e S r => q .non β' H' e S .non
    | rt d => exact q
    | bk ρ => exact q.elim
    | ct ρ => exact q.elim
end
/-! ### the law's end with its own table -/
section
variable {P : Program} {w : World} {K : PySem.W.Frag} {mg : Str → Option Value} {base : Heap} {m : List D → Sto → Out D}
theorem spL_ofT {q : Str} (e : ∀ (ns : List Int) (sc : D), sc = .ro (ns.map D.int) ∨ sc = .lst (ns.map D.int) → ∃ st, m [sc] [.tab q] = .ok (.bl true) st) {H : Hp} {a : Addr} {ns : List Int} (hl : ns.length ≤ 63) (hT : H (tabAddr K) = some (.tbl #[])) (S : SqL K H a (ns.map V.int)) : spL K m [.ref a] H (fun v _ => v = .bl true) fun _ _ _ => False := by
  have hz : (ns.map D.int).length ≤ sizeLine := by
    rw [List.length_map]
    exact Nat.le_trans hl (by decide)
  obtain ⟨sc, hsc, r⟩ : ∃ sc, (sc = .ro (ns.map D.int) ∨ sc = .lst (ns.map D.int)) ∧ Rep K ⟨[tabAddr K], []⟩ H (.ref a) sc := by
    rcases S with (h1 | h1) | h1
    · refine ⟨_, .inr rfl, .lst h1 ⟨fun z => ?_, fun z => by cases z⟩ (reps_ints ns) hz⟩
      rw [List.mem_singleton.mp z, hT] at h1
      cases h1
    · exact ⟨_, .inl rfl, .ro (.inl h1) (reps_ints ns) hz⟩
    · exact ⟨_, .inl rfl, .ro (.inr h1) (reps_ints ns) hz⟩
  obtain ⟨st, h⟩ := e ns sc hsc
  refine ⟨⟨[tabAddr K], []⟩, [sc], [.tab q], .cons r .nil, ⟨rfl, by simp, fun n a o h1 h2 => ?_, fun p hp => by cases hp⟩, rfl, ?_⟩
  · cases n with
    | zero =>
      cases h1
      cases h2
      exact ⟨rfl, TabS.nil hT⟩
    | succ n => simp at h2
  · rw [h]
    intro v β' H' _ _ r
    cases r
    rfl
end
end DL

set_option Elab.async false
set_option linter.all false
set_option maxRecDepth 100000
set_option maxHeartbeats 2000000
/-! # Texts, methods of texts, enumerate -/
namespace DL
open PySem PySem.Spec L2
open PyProof.Rows hiding St
/-! ### methods of texts -/
def MtD (K : PySem.W.Frag) (r : V → List V → Hp → VK → Prop) (m : D → List D → Sto → Option D) : Prop := ∀ (β : Bx) (H : Hp) (st : Sto) (x : V) (dx : D) (xs : List V) (ds : List D) (d : D) (Q : VK), Rep K β H x dx → Reps K β H xs ds → StoOk K β H st → m dx ds st = some d →
  (∀ v H', Same H H' → Rep K β H' v d → Q v H') → r x xs H Q
def isStr : D → Bool
  | .str _ => true
  | _ => false
theorem isStr_rep {K : PySem.W.Frag} {β : Bx} {H : Hp} {x : V} {d : D} (h : isStr d = true) (r : Rep K β H x d) : ∃ a, x = .str a := by
  cases d <;> simp [isStr] at h
  cases r
  exact ⟨_, rfl⟩
def gM0 (m : D → List D → Sto → Option D) (f : G D) : G D := fun ρ st => (f ρ st).bind fun d s1 => if isStr d = true then oout (m d [] s1) s1 else .bad
def gM1 (m : D → List D → Sto → Option D) (f g : G D) : G D := fun ρ st => (f ρ st).bind fun d s1 => if isStr d = true then (g ρ s1).bind fun e s2 => oout (m d [e] s2) s2 else .bad
section
variable {X : Cx} {W : WX} {o e : Expr} {f g : G D} {id : String} {name : Str} {apos pos : Pos} {r : V → List V → Hp → VK → Prop} {m : D → List D → Sto → Option D}
theorem de_m0 (slot : Slot "str" name id) (ty : typeOf (.builtin id) = pure (.type "method_descriptor")) (rule : MtR X id r) (hm : MtD X.K r m) (ho : DE X W o f)
    (hbase : attributeBase o name X.env (eval o X.env) = eval o X.env := by rfl) (hline : (apos.endLine == pos.line) = true := by rfl) : DE X W (.Call (.Attribute o name apos) [] [] pos) (gM0 m f) := by
  refine PEmono (pe_m0 slot ty rule ho hbase hline) fun σ H Q h => ?_
  obtain ⟨β, ρ, st, hρ, hs, h⟩ := h
  refine tD_intro hρ hs (Out.sat_bind h) (fun d s1 h1 v β1 H1 e1 S1 r1 => ?_) fun _ _ q => q
  split at h1
  · rename_i hs'
    obtain ⟨d3, q, p⟩ := oout_sat h1
    exact ⟨isStr_rep hs' r1, hm β1 H1 s1 v d [] [] d3 Q r1 .nil S1 q fun w' H' s' r' => p w' β1 H' (e1.trans (Ext.same s')) (S1.same s') r'⟩
  · exact h1.elim
theorem de_m1 (slot : Slot "str" name id) (ty : typeOf (.builtin id) = pure (.type "method_descriptor")) (rule : MtR X id r) (hm : MtD X.K r m) (ho : DE X W o f) (he : DE X W e g)
    (hs' : starEach [e] X.env = [(false, eval e X.env)] := by rfl) (hbase : attributeBase o name X.env (eval o X.env) = eval o X.env := by rfl) (hline : (apos.endLine == pos.line) = true := by rfl) : DE X W (.Call (.Attribute o name apos) [e] [] pos) (gM1 m f g) := by
  refine PEmono (pe_m1 slot ty rule ho he hs' hbase hline) fun σ H Q h => ?_
  obtain ⟨β, ρ, st, hρ, hs, h⟩ := h
  refine tD_intro hρ hs (Out.sat_bind h) (fun d s1 h1 v β1 H1 e1 S1 r1 => ?_) fun _ _ q => q
  split at h1
  · rename_i hs'
    refine ⟨isStr_rep hs' r1, ?_⟩
    refine tD_intro (hρ.ext e1) S1 (Out.sat_bind h1) (fun d2 s2 h2 v2 β2 H2 e2 S2 r2 => ?_) fun _ _ q => q.ext e1
    obtain ⟨d3, q, p⟩ := oout_sat h2
    exact hm β2 H2 s2 v d [v2] [d2] d3 Q (Rep.ext e2 _ _ r1) (.cons r2 .nil) S2 q fun w' H' s' r' => p w' β2 H' ((e1.trans e2).trans (Ext.same s')) (S2.same s') r'
  · exact h1.elim
end
theorem strsD_map (ys : List Str) : strsD (ys.map D.str) = some ys := by
  induction ys with
  | nil => rfl
  | cons y ys ih => simp only [List.map_cons, strsD, ih, Option.map_some]
def joinD (a : Str) (l : List D) : Option D := match strsD l with
  | some ys => if (ys.map (·.length)).sum + ys.length * a.length ≤ 1000000 then some (.str (Txt.join a ys)) else none
  | none => none
def mJoin : D → List D → Sto → Option D
  | .str a, [.lst l], _ => joinD a l
  | .str a, [.tup l], _ => joinD a l
  | .str a, [.ref n], st => match st[n]? with
    | some (.lst l) => joinD a l
    | _ => none
  | _, _, _ => none
theorem joinD_some {a : Str} {l : List D} {d : D} (h : joinD a l = some d) : ∃ ys, strsD l = some ys ∧ (ys.map (·.length)).sum + ys.length * a.length ≤ 16777216 ∧ d = .str (Txt.join a ys) := by
  unfold joinD at h
  split at h
  · rename_i ys q
    split at h
    · rename_i hz
      cases h
      exact ⟨ys, q, Nat.le_trans hz (by decide), rfl⟩
    · cases h
  · cases h
section
variable {K : PySem.W.Frag}
abbrev rJoin (K : PySem.W.Frag) : V → List V → Hp → VK → Prop := fun x xs H Q => ∃ a p, ∃ ys : List Str, x = .str a ∧ xs = [.ref p] ∧ (SqL K H p (ys.map V.str) ∨ SqT K H p (ys.map V.str)) ∧ (ys.map (·.length)).sum + ys.length * a.length ≤ 16777216 ∧ Q (.str (Txt.join a ys)) H
theorem md_join : MtD K (rJoin K) mJoin := by
  intro β H st x dx xs ds d Q rx rs S e q
  match dx, ds, rs, e with
  | .str a, [.lst l], rs, e =>
    obtain ⟨ys, h1, h2, rfl⟩ := joinD_some (by simpa only [mJoin] using e)
    obtain ⟨v, rfl, r1⟩ := rs.one
    cases rx
    cases r1 with
    | lst g1 g2 g3 g4 =>
      have e1 := strsD_reps g3 h1
      subst e1
      exact ⟨_, _, ys, rfl, rfl, .inl (SqL.of g1), h2, q _ _ (Same.refl H) (.str _)⟩
  | .str a, [.tup l], rs, e =>
    obtain ⟨ys, h1, h2, rfl⟩ := joinD_some (by simpa only [mJoin] using e)
    obtain ⟨v, rfl, r1⟩ := rs.one
    cases rx
    cases r1 with
    | tup g1 g3 g4 =>
      have e1 := strsD_reps g3 h1
      subst e1
      exact ⟨_, _, ys, rfl, rfl, .inr g1, h2, q _ _ (Same.refl H) (.str _)⟩
  | .str a, [.ref n], rs, e =>
    obtain ⟨v, rfl, r1⟩ := rs.one
    cases rx
    cases r1 with
    | ref hm =>
      obtain ⟨o, ho, rel⟩ := S.get hm
      simp only [mJoin, ho] at e
      cases o with
      | lst l =>
        obtain ⟨ys, h1, h2, rfl⟩ := joinD_some e
        obtain ⟨xs, g1, g3⟩ := rel
        have e1 := strsD_reps g3 h1
        subst e1
        exact ⟨_, _, ys, rfl, rfl, .inl (SqL.of g1), h2, q _ _ (Same.refl H) (.str _)⟩
      | dK l => cases e
      | tab z => cases e
def mSplit : D → List D → Sto → Option D
  | .str a, [.str b], _ => if b.length ≠ 0 ∧ a.length ≤ 1000000 then some (.lst ((Txt.split a b).map D.str)) else none
  | _, _, _ => none
abbrev rSplit : V → List V → Hp → VK → Prop := fun x xs H Q => ∃ a b, x = .str a ∧ xs = [.str b] ∧ (b.length == 0) = false ∧ a.length + 2 ≤ sizeLine ∧ rNewStrs (Txt.split a b) H Q
theorem md_split : MtD K rSplit mSplit := by
  intro β H st x dx xs ds d Q rx rs S e q
  match dx, ds, rs, e with
  | .str a, [.str b], rs, e =>
    simp only [mSplit] at e
    split at e
    · rename_i hz
      cases e
      obtain ⟨v, rfl, r1⟩ := rs.one
      cases rx
      cases r1
      refine ⟨a, b, rfl, rfl, by simpa using hz.1, by rw [sizeLine_eq]; omega, fun p np => ?_⟩
      have hl : ((Txt.split a b).map D.str).length ≤ sizeLine := by
        rw [List.length_map, sizeLine_eq]
        have := PyProof.Rows.split_le a b
        omega
      exact q _ _ (same_new np) (.lst upd_same (S.nmem np) (reps_strs _) hl)
    · cases e
def mT0 (c : Str → Bool) : D → List D → Sto → Option D
  | .str a, [], _ => some (.bl (c a))
  | _, _, _ => none
theorem md_t0 {c : Str → Bool} : MtD K (fun x xs H Q => ∃ a, x = .str a ∧ xs = [] ∧ True ∧ Q (.bl (c a)) H) (mT0 c) := by
  intro β H st x dx xs ds d Q rx rs S e q
  match dx, ds, rs, e with
  | .str a, [], rs, e =>
    cases e
    cases rx
    cases rs
    exact ⟨a, rfl, rfl, trivial, q _ _ (Same.refl H) (.bl _)⟩
def mT1 (c : Str → Str → Bool) : D → List D → Sto → Option D
  | .str a, [.str b], _ => some (.bl (c a b))
  | _, _, _ => none
theorem md_t1 {c : Str → Str → Bool} : MtD K (fun x xs H Q => ∃ a b, x = .str a ∧ xs = [.str b] ∧ Q (.bl (c a b)) H) (mT1 c) := by
  intro β H st x dx xs ds d Q rx rs S e q
  match dx, ds, rs, e with
  | .str a, [.str b], rs, e =>
    cases e
    obtain ⟨v, rfl, r1⟩ := rs.one
    cases rx
    cases r1
    exact ⟨a, b, rfl, rfl, q _ _ (Same.refl H) (.bl _)⟩
abbrev mIsdigit := mT0 Txt.isdigit
abbrev mIsascii := mT0 Txt.isascii
abbrev mStartswith := mT1 Txt.startswith
end
section
variable {X : Cx} {W : WX} {o e : Expr} {f g : G D} {apos pos : Pos}
theorem de_join (ho : DE X W o f) (he : DE X W e g) (hs : starEach [e] X.env = [(false, eval e X.env)] := by rfl) (hbase : attributeBase o "join" X.env (eval o X.env) = eval o X.env := by rfl) (hline : (apos.endLine == pos.line) = true := by rfl) :
    DE X W (.Call (.Attribute o "join" apos) [e] [] pos) (gM1 mJoin f g) := de_m1 PySem.F.slot_str_join PySem.F.type_str_join mt_join md_join ho he hs hbase hline
theorem de_split (ho : DE X W o f) (he : DE X W e g) (hs : starEach [e] X.env = [(false, eval e X.env)] := by rfl) (hbase : attributeBase o "split" X.env (eval o X.env) = eval o X.env := by rfl) (hline : (apos.endLine == pos.line) = true := by rfl) :
    DE X W (.Call (.Attribute o "split" apos) [e] [] pos) (gM1 mSplit f g) := de_m1 PySem.F.slot_str_split PySem.F.type_str_split mt_split md_split ho he hs hbase hline
theorem de_startswith (ho : DE X W o f) (he : DE X W e g) (hs : starEach [e] X.env = [(false, eval e X.env)] := by rfl) (hbase : attributeBase o "startswith" X.env (eval o X.env) = eval o X.env := by rfl) (hline : (apos.endLine == pos.line) = true := by rfl) :
    DE X W (.Call (.Attribute o "startswith" apos) [e] [] pos) (gM1 mStartswith f g) := de_m1 PySem.F.slot_str_startswith PySem.F.type_str_startswith mt_startswith md_t1 ho he hs hbase hline
theorem de_isdigit (ho : DE X W o f) (hbase : attributeBase o "isdigit" X.env (eval o X.env) = eval o X.env := by rfl) (hline : (apos.endLine == pos.line) = true := by rfl) :
    DE X W (.Call (.Attribute o "isdigit" apos) [] [] pos) (gM0 mIsdigit f) := de_m0 PySem.F.slot_str_isdigit PySem.F.type_str_isdigit mt_isdigit md_t0 ho hbase hline
theorem de_isascii (ho : DE X W o f) (hbase : attributeBase o "isascii" X.env (eval o X.env) = eval o X.env := by rfl) (hline : (apos.endLine == pos.line) = true := by rfl) :
    DE X W (.Call (.Attribute o "isascii" apos) [] [] pos) (gM0 mIsascii f) := de_m0 PySem.F.slot_str_isascii PySem.F.type_str_isascii mt_isascii md_t0 ho hbase hline
end
/-! ### str(x), int(text) -/
section
variable {K : PySem.W.Frag}
def mStr : List D → Sto → Option D
  | [.int i], _ => if i.natAbs.log2 < 1920 then some (.str (toString i)) else none
  | [.str a], _ => some (.str a)
  | _, _ => none
abbrev rStr : List V → Hp → VK → Prop := fun xs H Q => (∃ i, xs = [.int i] ∧ i.natAbs.log2 < 1920 ∧ Q (.str (toString i)) H) ∨ ∃ a, xs = [.str a] ∧ Q (.str a) H
theorem call_str {X : Cx} : CallR X (.type "str") rStr := call_str_int.or SkE.call_str_str
theorem cd_str : CallD K rStr mStr := by
  intro β H st xs ds d Q r S e q
  match ds, r, e with
  | [.int i], r, e =>
    simp only [mStr] at e
    split at e
    · rename_i hz
      obtain ⟨v, rfl, r1⟩ := r.one
      cases r1
      cases e
      exact .inl ⟨_, rfl, hz, q _ _ (Same.refl H) (.str _)⟩
    · cases e
  | [.str a], r, e => obtain ⟨v, rfl, r1⟩ := r.one; cases r1; cases e; exact .inr ⟨_, rfl, q _ _ (Same.refl H) (.str _)⟩
def mIntT : List D → Sto → Option D
  | [.str a], _ => if a.length ≤ 640 then (PySem.intText? a).map D.int else none
  | _, _ => none
theorem cd_intT : CallD K (fun xs H Q => ∃ a n, xs = [.str a] ∧ PySem.intText? a = some n ∧ a.length ≤ 640 ∧ Q (.int n) H) mIntT := by
  intro β H st xs ds d Q r S e q
  match ds, r, e with
  | [.str a], r, e =>
    simp only [mIntT] at e
    split at e
    · rename_i hz
      cases hn : PySem.intText? a with
      | none => rw [hn] at e; cases e
      | some n =>
        rw [hn] at e
        cases e
        obtain ⟨v, rfl, r1⟩ := r.one
        cases r1
        exact ⟨a, n, rfl, hn, hz, q _ _ (Same.refl H) (.int _)⟩
    · cases e
end
/-! ### enumerate -/
def SqS (K : PySem.W.Frag) (H : Hp) (a : Addr) (xs : List V) : Prop := SqL K H a xs ∨ SqT K H a xs
/-- the tuple at a, each item in a new pair -/
def IteT (K : PySem.W.Frag) (a : Addr) : It :=
  ⟨fun i H => ∃ (xs : List V) (x : V), SqT K H a xs ∧ xs[i]? = some x, fun i H v H' => ∃ T x, v = .ref T ∧ H T = none ∧ H' = upd H T (.tup [.int (i : Nat), x]) ∧ ∀ xs, SqT K H a xs → xs[i]? = some x, fun i H => ∃ xs : List V, SqT K H a xs ∧ xs.length ≤ i⟩
theorem meets_enumerate_newT (l : Addr) (items : Array Value) :
    Meets (Builtin.«enumerate.__new__» ⟨[.type "enumerate", .ref l], []⟩) (fun _ R s => s.heap.IsTuple l items ∧
      R (.ok (.ret (.ref (s.heap.push { cls := .type "tuple_iterator", data := .fields #[.ref l, .int 0 0] }).objs.size)))
        { s with heap := (s.heap.push { cls := .type "tuple_iterator", data := .fields #[.ref l, .int 0 0] }).push { cls := .type "enumerate", data := .fields #[.none, .bool false, .ref s.heap.objs.size, rawInt 0, .none, .none] } }) :=
  .of_wp fun prog w A R s h => by
    obtain ⟨hp, g, d, tk, os⟩ := s; obtain ⟨hT, h⟩ := h
    have hsub := sub_enumerate
    have q1 : ∀ {A' : Around} {E : Value → Shared → Prop} {Q : Value → Shared → Prop}, Q (.ref hp.objs.size) ⟨hp.push { cls := .type "tuple_iterator", data := .fields #[.ref l, .int 0 0] }, g, d, tk, os⟩ → wpAny (model prog w) A' (pyIter (.ref l)) Q E ⟨hp, g, d, tk, os⟩ :=
      fun q => (begins_tuple l items).iter prog w _ _ ⟨hp, g, d, tk, os⟩ _ hT q
    wp_walk using q1
    refine wpAny_stack_any fun st => wpAny_pure ?_
    split
    · rename_i c _ _ _ _ _
      cases (c == Value.type "enumerate")
      · wp_walk using q1
        exact ⟨_, rfl, h⟩
      · wp_walk using q1
        exact ⟨_, rfl, h⟩
    · wp_walk using q1
      exact ⟨_, rfl, h⟩
theorem call_enumerate_tuple {prog : Program} {w : World} {A : Around} {E : Value → Shared → Prop} {s : Shared} {l : Addr} {items : Array Value} {Q : Value → Shared → Prop} (hT : s.heap.IsTuple l items)
    (h : ∀ h', IsEnum h' (s.heap.objs.size + 1) s.heap.objs.size 0 .none → h'.IsTupleIter s.heap.objs.size l 0 → h'.objs.size = s.heap.objs.size + 2 →
      (∀ b o, s.heap.get? b = some o → h'.get? b = some o) → Q (.ref (s.heap.objs.size + 1)) { s with heap := h' }) :
    wpAny (model prog w) A (call (.type "enumerate") [.ref l]) Q E s := by
  refine callType_new PySem.F.called_enumerate (by decide) (PySem.F.typeCall_enumerate_1 _) (PySem.F.newCall_enumerate_1 _) (fun obj => PySem.F.args_object_init_2 obj _) PySem.F.entry_enumerate_new
    (meets_enumerate_newT l items) ⟨hT, ?_⟩
  have hz : (s.heap.push { cls := .type "tuple_iterator", data := .fields #[.ref l, .int 0 0] }).objs.size = s.heap.objs.size + 1 := Heap.size_push ..
  show _ ∧ _
  rw [hz]
  have he : IsEnum ((s.heap.push { cls := .type "tuple_iterator", data := .fields #[.ref l, .int 0 0] }).push
      { cls := .type "enumerate", data := .fields #[.none, .bool false, .ref s.heap.objs.size, rawInt 0, .none, .none] }) (s.heap.objs.size + 1) s.heap.objs.size 0 .none := by
    have := Heap.get?_push_size (s.heap.push { cls := .type "tuple_iterator", data := .fields #[.ref l, .int 0 0] })
      (o := { cls := .type "enumerate", data := .fields #[.none, .bool false, .ref s.heap.objs.size, rawInt 0, .none, .none] }) rfl
    rw [hz] at this; exact this
  refine ⟨⟨_, he, rfl⟩, h _ he ⟨_, Heap.get?_push_of_some _ (Heap.get?_push_size _ rfl), rfl, rfl⟩ (by rw [Heap.size_push, hz]) fun b o x => Heap.get?_push_of_some _ (Heap.get?_push_of_some _ x)⟩
theorem turn_enumT {P : Program} {w : World} {K : PySem.W.Frag} {elts : List Expr} {kk : Nat} {tpos : Pos} (a e it : Addr) (hai : a ≠ it) (hae : a ≠ e) :
    Turn P w K (.Tuple elts kk tpos) (IteT K a) [e, it] e (fun i h => (∃ old, IsEnum h e it ((i : Nat) : Int) old) ∧ h.IsTupleIter it a i ∧ e ≠ it) where
  mem := by simp
  obj := fun i h st b hb => by
    obtain ⟨⟨old, he⟩, ⟨o, ho, hc, hd⟩, _⟩ := st
    have e' : b = e ∨ b = it := by simpa using hb
    rcases e' with z | z
    · rw [z]; exact ⟨_, he, fun v q => nomatch q⟩
    · rw [z]; exact ⟨o, ho, fun v q => by rw [hd] at q; cases q⟩
  keep := fun i h h' st k => let ⟨⟨old, he⟩, hi, hne⟩ := st; ⟨⟨old, k e (by simp) _ he⟩, hi.at fun o q => k it (by simp) o q, hne⟩
  item := by
    intro X hP hw hK hc i pins s σ H E I hf st hg
    subst hP hw hK
    obtain ⟨⟨old, he⟩, hit, hne⟩ := st
    obtain ⟨xs, x, hq, hx⟩ := hg
    obtain ⟨its, rv, p, hz⟩ := I.tuple hq
    obtain ⟨u, hu, ru⟩ := rv.get hx
    have hel : e < s.heap.objs.size := Heap.lt_size he
    have hil : it < s.heap.objs.size := by obtain ⟨_, q, _⟩ := hit; exact Heap.lt_size q
    have hlt : i < its.toArray.size := by
      have := (List.getElem?_eq_some_iff.mp hu).1
      simpa using this
    have nd : e ∉ [it, a] := by
      intro z
      rcases List.mem_cons.mp z with z | z
      · exact hne z
      · exact hae (List.mem_singleton.mp z).symm
    refine wpAny_pyNext_enum_itemC (Draws.tuple (prog := X.prog) (w := X.w) (A := X.A.in1) (show X.A.handled = none from I.ok.hd hc) it a hai its.toArray) he ⟨hit, p⟩ hlt hne nd fun x' h' tk hP ho hit' hT hsz hk => ?_
    have hxu : x' = u := by
      have h1 : its.toArray[i]? = some x' := hP
      rw [List.getElem?_toArray, hu] at h1
      exact (Option.some.inj h1).symm
    subst hxu
    refine ⟨_, rfl, wpAny_letOwnedTupleGo_enum (s := { s with heap := h', toks := tk + 1 }) ho fun h'' he' sb => ?_⟩
    have hT2 : h''.get? s.heap.objs.size = some { cls := .type "tuple", data := .seq #[.int i tk, x'] } := (sb.2 _ (Nat.ne_of_gt hel)).trans hT
    have new : ObjOk X.prog X.w (upd H s.heap.objs.size (.tup [.int (i : Nat), x])) h'' s.heap.objs.size (.tup [.int (i : Nat), x]) :=
      ⟨by show 2 ≤ sizeLine; decide, [.int i tk, x'], .cons ⟨_, rfl⟩ (.cons ru .nil), ⟨_, hT2, rfl, _, rfl⟩⟩
    have I1 : Inv X pins σ (upd H s.heap.objs.size (.tup [.int (i : Nat), x])) { s with heap := h'', toks := tk + 1 } :=
      I.turnedNew (ch := [e, it]) (fun b ob hb q => (sb.2 b (fun z => hb (by simp [z]))).trans (hk b ob (fun z => hb (by simp [z])) (fun z => hb (by simp [z])) q)) hf (Nat.le_refl _) new
    refine ⟨.ref s.heap.objs.size, _, I1, rfl, ⟨_, x, rfl, I.hok.fresh (Nat.le_refl _), rfl, fun ys hy => by rw [I.tuple_inj hy hq]; exact hx⟩, ⟨⟨x', ?_⟩, hit'.1.at fun o q => (sb.2 it (Ne.symm hne)).trans q, hne⟩, fun b hb => ?_⟩
    · have e1 : ((i + 1 : Nat) : Int) = (i : Int) + 1 := by omega
      rw [e1]; exact he'
    · have hb' : b < s.heap.objs.size := by
        have e' : b = e ∨ b = it := by simpa using hb
        rcases e' with z | z
        · rw [z]; exact hel
        · rw [z]; exact hil
      rw [upd_ne (Nat.ne_of_lt hb')]
      exact (hf b hb).1
  done := by
    intro X hP hw hK hc i pins s σ H E I hf st hg
    subst hP hw hK
    obtain ⟨⟨old, he⟩, hit, hne⟩ := st
    obtain ⟨xs, hq, hx⟩ := hg
    obtain ⟨its, rv, p, hz⟩ := I.tuple hq
    obtain ⟨f0, f1, f2, f3, f4, f5⟩ := hf it (by simp)
    have hl := rv.length
    have D' : Draws X.prog X.w X.A.in1 it [it, a] i (fun _ _ => False) (fun j h => j = i ∧ h.IsTupleIter it a i ∧ h.IsTuple a its.toArray) :=
      { live := fun _ _ st => let ⟨o, ho, _⟩ := st.2.1; ⟨o, ho⟩
        frame := fun _ _ _ st hk => ⟨st.1, st.2.1.at fun o e => hk it (by simp) o e, st.2.2.at fun o e => hk a (by simp) o e⟩
        item := fun j s Q E hj st _ => absurd st.1 (Nat.ne_of_lt hj)
        done := fun s Q E st hE => wpAny_nextOf_tuple_end (show X.A.handled = none from I.ok.hd hc) st.2.1 st.2.2 (by simp; omega) hE }
    exact wpAny_pyNext_enum_endD D' he ⟨rfl, hit, p⟩ fun h' eb => ⟨rfl, I.turned (t' := s.toks) (fun b o hb q => eb b o hb q) f0 f1 f3 f4 f5⟩
  self := fun A i s Q E st h => let ⟨⟨_, he⟩, _⟩ := st; wpAny_pyIter_enum he h
def iEnumT (K : PySem.W.Frag) (ta : TA) : TI := fun σ H R => ta σ H fun vs H1 => ∃ a xs, vs = [.ref a] ∧ ((SqL K H1 a xs ∧ R (Ite K a) H1) ∨ (SqT K H1 a xs ∧ R (IteT K a) H1))
theorem pi_enumT {X : Cx} {e : Expr} {ta : TA} {p pos tpos : Pos} {elts : List Expr} {kk : Nat} (hg : Gl X "enumerate") (hm : X.mg "enumerate" = none) (ha : PA X [e] ta) (hs : starEach [e] X.env = [(false, eval e X.env)] := by rfl) :
    PI X (.Tuple elts kk tpos) (.Call (.Name "enumerate" p) [e] [] pos) (iEnumT X.K ta) := by
  refine ⟨fun pins s σ H R I h => ?_⟩
  refine Call_ (ld_blt I hg hm boot_enumerate (PyProof.Rows.callWith_type1 (thn (ha.run pos pins s σ H _ I h) fun us s1 ⟨vs, H1, I1, r1, q1⟩ => ?_) hs rfl))
  obtain ⟨a, xs, ex, q⟩ := q1
  subst ex
  cases r1 with
  | cons r rr =>
    cases rr
    cases r
    have fr : ∀ b, b ∈ [s1.heap.objs.size + 1, s1.heap.objs.size] → FpOk X pins H1 b := fun b hb => by
      have e' : b = s1.heap.objs.size + 1 ∨ b = s1.heap.objs.size := by simpa using hb
      have hle : s1.heap.objs.size ≤ b := by
        rcases e' with z | z
        · rw [z]; exact Nat.le_add_right _ _
        · rw [z]; exact Nat.le_refl _
      exact I1.fpOk hle (I1.hok.fresh hle)
    rcases q with ⟨hq, q⟩ | ⟨hq, q⟩
    · obtain ⟨its, rv, p', hz⟩ := I1.list hq
      refine call_enumerate_list p'.isList fun h' he hit hsz hk => wpAny_pyIter_enum he ?_
      exact ⟨s1.heap.objs.size + 1, [s1.heap.objs.size + 1, s1.heap.objs.size], _, _, H1, rfl, I1.kept (t' := s1.toks) hk, turn_enum a (s1.heap.objs.size + 1) s1.heap.objs.size, ⟨⟨.none, he⟩, hit, Nat.succ_ne_self _⟩, fr, q⟩
    · obtain ⟨its, rv, p', hz⟩ := I1.tuple hq
      have hal : a < s1.heap.objs.size := by obtain ⟨_, q, _⟩ := id p'; exact Heap.lt_size q
      refine call_enumerate_tuple (show s1.heap.IsTuple a its.toArray from p') fun h' he hit hsz hk => wpAny_pyIter_enum he ?_
      exact ⟨s1.heap.objs.size + 1, [s1.heap.objs.size + 1, s1.heap.objs.size], _, _, H1, rfl, I1.kept (t' := s1.toks) hk, turn_enumT a (s1.heap.objs.size + 1) s1.heap.objs.size (Nat.ne_of_lt hal) (Nat.ne_of_lt (Nat.lt_succ_of_lt hal)), ⟨⟨.none, he⟩, hit, Nat.succ_ne_self _⟩, fr, q⟩
def enumD : Nat → List D → List D
  | _, [] => []
  | n, d :: ds => .tup [.int (n : Int), d] :: enumD (n + 1) ds
theorem enumD_len : ∀ (l : List D) (n : Nat), (enumD n l).length = l.length
  | [], _ => rfl
  | _ :: ds, n => by simp only [enumD, List.length_cons, enumD_len ds (n + 1)]
theorem enumD_get : ∀ {l : List D} {n i : Nat} {d : D}, (enumD n l)[i]? = some d → ∃ x, d = .tup [.int ((n + i : Nat) : Int), x] ∧ l[i]? = some x
  | [], n, i, d, h => by simp [enumD] at h
  | x :: ds, n, 0, d, h => ⟨x, (Option.some.inj (by simpa [enumD] using h)).symm, rfl⟩
  | x :: ds, n, i + 1, d, h => by
    obtain ⟨y, e, q⟩ := enumD_get (l := ds) (n := n + 1) (i := i) (d := d) (by simpa [enumD] using h)
    exact ⟨y, by rw [e, show n + 1 + i = n + (i + 1) by omega], by simpa using q⟩
section
variable {K : PySem.W.Frag} {β : Bx} {H : Hp}
theorem itd_el {a : Addr} {xs : List V} {l : List D} (h : ∀ β' H', Mv β H β' H' → SqL K H' a xs) (r : Reps K β H xs l) : ItD K β H (Ite K a) (enumD 0 l) where
  go := fun β' H' i e hi => by
    rw [enumD_len] at hi
    exact ⟨xs, xs[i]'(by rw [r.length]; exact hi), h β' H' e, List.getElem?_eq_getElem _⟩
  yld := fun β' H' i x H'' d e hd hy => by
    obtain ⟨T, x1, rfl, nT, rfl, f1⟩ := hy
    obtain ⟨dx, rfl, g1⟩ := enumD_get hd
    obtain ⟨v, hv, rv⟩ := r.get g1
    have e1 := f1 xs (h β' H' e)
    rw [hv] at e1
    have e1 := Option.some.inj e1
    subst e1
    have e3 := e.trans (Ext.new (β := β') (o := .tup [.int (i : Int), v]) nT).mv
    rw [Nat.zero_add]
    exact ⟨same_new nT, .tup (.inl (.inl upd_same)) (.cons (.int _) (.cons (Rep.move e3 _ _ rv) .nil)) (le1000 (by simp))⟩
  stop := fun β' H' i e hi => by
    rw [enumD_len] at hi
    exact ⟨xs, h β' H' e, by rw [r.length]; exact hi⟩
theorem itd_et {a : Addr} {xs : List V} {l : List D} (h : SqT K H a xs) (r : Reps K β H xs l) : ItD K β H (IteT K a) (enumD 0 l) where
  go := fun β' H' i e hi => by
    rw [enumD_len] at hi
    exact ⟨xs, xs[i]'(by rw [r.length]; exact hi), e.sqT h, List.getElem?_eq_getElem _⟩
  yld := fun β' H' i x H'' d e hd hy => by
    obtain ⟨T, x1, rfl, nT, rfl, f1⟩ := hy
    obtain ⟨dx, rfl, g1⟩ := enumD_get hd
    obtain ⟨v, hv, rv⟩ := r.get g1
    have e1 := f1 xs (e.sqT h)
    rw [hv] at e1
    have e1 := Option.some.inj e1
    subst e1
    have e3 := e.trans (Ext.new (β := β') (o := .tup [.int (i : Int), v]) nT).mv
    rw [Nat.zero_add]
    exact ⟨same_new nT, .tup (.inl (.inl upd_same)) (.cons (.int _) (.cons (Rep.move e3 _ _ rv) .nil)) (le1000 (by simp))⟩
  stop := fun β' H' i e hi => by
    rw [enumD_len] at hi
    exact ⟨xs, e.sqT h, by rw [r.length]; exact hi⟩
end
def mEnum : List D → Option (List D)
  | [.tup l] => some (enumD 0 l)
  | [.lst l] => some (enumD 0 l)
  | [.ro l] => some (enumD 0 l)
  | _ => none
def gEnum (f : G (List D)) : G (List D) := fun ρ st => (f ρ st).bind fun d s1 => oout (mEnum d) s1
section
variable {X : Cx} {W : WX}
theorem di_enum {e : Expr} {fs : G (List D)} {elts : List Expr} {kk : Nat} {tpos p pos : Pos} (hg : Gl X "enumerate") (hm : X.mg "enumerate" = none) (ha : DA X W [e] fs) (hs : starEach [e] X.env = [(false, eval e X.env)] := by rfl) :
    DI X W (.Tuple elts kk tpos) (.Call (.Name "enumerate" p) [e] [] pos) (gEnum fs) := by
  refine PImono (pi_enumT hg hm ha hs) fun σ H R h => ?_
  obtain ⟨β, ρ, st, hρ, hs, h⟩ := h
  refine tDA_intro hρ hs (Out.sat_bind h) (fun d s1 h1 v β1 H1 e1 S1 r1 => ?_) fun _ _ q => q
  obtain ⟨l, q, p⟩ := oout_sat h1
  unfold mEnum at q
  split at q
  · rename_i l
    cases q
    obtain ⟨v, rfl, r⟩ := r1.one
    cases r with | tup g1 g2 g3 => exact ⟨_, _, rfl, .inr ⟨g1, p _ β1 H1 e1 S1 (itd_et g1 g2) (by rw [enumD_len]; exact g3)⟩⟩
  · rename_i l
    cases q
    obtain ⟨v, rfl, r⟩ := r1.one
    cases r with | lst g1 gn g2 g3 => exact ⟨_, _, rfl, .inl ⟨SqL.of g1, p _ β1 H1 e1 S1 (itd_el (fun β' H' e => SqL.of (e.lst _ _ g1 gn).1) g2) (by rw [enumD_len]; exact g3)⟩⟩
  · rename_i l
    cases q
    obtain ⟨v, rfl, r⟩ := r1.one
    cases r with | ro g1 g2 g3 => exact ⟨_, _, rfl, .inl ⟨g1.sqL, p _ β1 H1 e1 S1 (itd_el (fun β' H' e => (e.sqR g1).sqL) g2) (by rw [enumD_len]; exact g3)⟩⟩
  · cases q
end
end DL
namespace DL
open PySem PySem.Spec L2
open PyProof.Rows hiding St
def mIAdd : D → D → Sto → Option D
  | .int i, .int j, _ => some (.int (i + j))
  | _, _, _ => none
def mISub : D → D → Sto → Option D
  | .int i, .int j, _ => some (.int (i - j))
  | _, _, _ => none
theorem od_iadd {K : PySem.W.Frag} : OpD K (ipI fun i j => i + j) mIAdd := by
  intro β H st x y dx dy d Q rx ry S e q
  match dx, dy, rx, ry, e with
  | .int i, .int j, rx, ry, e => cases e; cases rx; cases ry; exact ⟨i, j, rfl, rfl, q _ _ (Same.refl H) (.int _)⟩
theorem od_isub {K : PySem.W.Frag} : OpD K (ipI fun i j => i - j) mISub := by
  intro β H st x y dx dy d Q rx ry S e q
  match dx, dy, rx, ry, e with
  | .int i, .int j, rx, ry, e => cases e; cases rx; cases ry; exact ⟨i, j, rfl, rfl, q _ _ (Same.refl H) (.int _)⟩
section
variable {X : Cx} {W : WX} {pos : Pos} {e : Expr} {f : G D}
theorem ds_aug {i : Nat} {x : Str} {pos' : Pos} {op : Operator} {rd : R2} {m : D → D → Sto → Option D} (hN : X.N.Nodup) (hi : X.N[i]? = some x) (hx : Loc X.env.scope x) (he : DE X W e f) (ho : PIp X op rd) (hm : OpD X.K rd m)
    (hf : X.fn x = true ∨ X.env.scope.names.lookup x = some .local := by first | exact .inl rfl | exact .inr rfl | assumption) : DS X W (.AugAssign (.Name x pos') op e pos) (sAug m i f) := by
  refine PSmono (ps_aug hN hi hx he ho hf) fun D' σ H h => ?_
  obtain ⟨β, ρ, st, hρ, hs, h⟩ := h
  have h := Out.sat_bind h
  unfold gVar at h
  split at h
  · rename_i d0 hd0
    obtain ⟨v0, hv0, r0⟩ := hρ.2 i d0 hd0
    refine ⟨v0, hv0, ?_⟩
    refine tD_intro hρ hs (Out.sat_bind h) (fun d s1 h1 v β1 H1 e1 S1 r1 => ?_) fun _ _ q => xs_x q
    obtain ⟨d3, q, p⟩ := oout_sat (Out.sat_bind h1)
    exact hm β1 H1 s1 v0 v d0 d d3 _ (Rep.ext e1 _ _ r0) r1 S1 q fun w' H' s' r' => p _ β1 H' (e1.trans (Ext.same s')) (S1.same s') ((hρ.ext (e1.trans (Ext.same s'))).set i r')
  · exact h.elim
end
end DL
namespace DL
open PySem PySem.Spec L2
open PyProof.Rows hiding St
/-! ### a, b, c = x, y, z -/
def sPar3 (i j l : Nat) (f : G (List D)) : G Fl := fun ρ st => (f ρ st).bind fun ds s1 => match ds with
  | [a, b, c] => .ok (.nx (((ρ.set i (some a)).set j (some b)).set l (some c))) s1
  | _ => .bad
section
variable {X : Cx} {W : WX} {pos : Pos} {a b c : Expr} {fs : G (List D)}
theorem ds_par3 {i j l : Nat} {x y z : Str} {px py pz pt : Pos} {kt k2 pt2} (hc : X.calm = true) (hN : X.N.Nodup) (hi : X.N[i]? = some x) (hj : X.N[j]? = some y) (hl : X.N[l]? = some z) (hij : i ≠ j) (hil : i ≠ l) (hjl : j ≠ l)
    (hx : X.env.scope.names.lookup x = some .local) (hy : X.env.scope.names.lookup y = some .local) (hz : X.env.scope.names.lookup z = some .local) (ha : DA X W [a, b, c] fs)
    (hw : swappedStores [.Tuple [.Name x px, .Name y py, .Name z pz] kt pt] (.Tuple [a, b, c] k2 pt2) X.env = pure (some [x, y, z]))
    (hs : swapsWithSole [.Tuple [.Name x px, .Name y py, .Name z pz] kt pt] (.Tuple [a, b, c] k2 pt2) pos.line X.env = pure false := by rfl) :
    DS X W (.Assign [.Tuple [.Name x px, .Name y py, .Name z pz] kt pt] (.Tuple [a, b, c] k2 pt2) pos) (sPar3 i j l fs) := by
  refine PSmono (ps_par3 hc hN hi hj hl hij hil hjl hx hy hz ha hw hs) fun D' σ H h => ?_
  obtain ⟨β, ρ, st, hρ, hs, h⟩ := h
  refine tDA_intro hρ hs (Out.sat_bind h) (fun ds s1 h1 vs β1 H1 e1 S1 r1 => ?_) fun _ _ q => xs_x q
  split at h1
  · rename_i d1 d2 d3
    cases r1 with
    | cons q1 r1 =>
      obtain ⟨v, w, rfl, q2, q3⟩ := r1.two
      exact ⟨_, v, w, rfl, h1 _ β1 H1 e1 S1 ((((hρ.ext e1).set i q1).set j q2).set l q3)⟩
  · exact h1.elim
end
end DL
namespace DL
open PySem PySem.Spec L2
open PyProof.Rows hiding St
/-! ### rows for simp -/
section
variable {ρ : Env} {st : Sto} {f g : G D} {fs : G (List D)} {m : D → List D → Sto → Option D} {x : Str} {i j : Int} {l : List D} {n k : Nat} {d e : D}
@[simp] theorem isStr_str : isStr (.str x) = true := rfl
@[simp] def kM0 (m : D → List D → Sto → Option D) (d : D) (s1 : Sto) : Out D := if isStr d = true then oout (m d [] s1) s1 else .bad
@[simp] theorem e_M0 : gM0 m f ρ st = (f ρ st).bind (kM0 m) := rfl
@[simp] def kM12 (m : D → List D → Sto → Option D) (d e : D) (s2 : Sto) : Out D := oout (m d [e] s2) s2
@[simp] def kM1 (m : D → List D → Sto → Option D) (g : G D) (ρ : Env) (d : D) (s1 : Sto) : Out D := if isStr d = true then (g ρ s1).bind (kM12 m d) else .bad
@[simp] theorem e_M1 : gM1 m f g ρ st = (f ρ st).bind (kM1 m g ρ) := rfl
@[simp] def kEnum (d : List D) (s1 : Sto) : Out (List D) := oout (mEnum d) s1
@[simp] theorem e_Enum : gEnum fs ρ st = (fs ρ st).bind kEnum := rfl
@[simp] theorem o_enumt : mEnum [.tup l] = some (enumD 0 l) := rfl
@[simp] theorem o_enuml : mEnum [.lst l] = some (enumD 0 l) := rfl
@[simp] def kAug2 (n : Nat) (ρ : Env) (z : D) (s1 : Sto) : Out Fl := .ok (.nx (ρ.set n (some z))) s1
@[simp] def kAug1 (m : D → D → Sto → Option D) (n : Nat) (ρ : Env) (x d : D) (s1 : Sto) : Out Fl := (oout (m x d s1) s1).bind (kAug2 n ρ)
@[simp] def kAug (m : D → D → Sto → Option D) (n : Nat) (f : G D) (ρ : Env) (x : D) (s0 : Sto) : Out Fl := (f ρ s0).bind (kAug1 m n ρ x)
@[simp] theorem e_Aug {m : D → D → Sto → Option D} : sAug m n f ρ st = (gVar n ρ st).bind (kAug m n f ρ) := rfl
@[simp] theorem o_iadd : mIAdd (.int i) (.int j) st = some (.int (i + j)) := rfl
@[simp] theorem o_isub : mISub (.int i) (.int j) st = some (.int (i - j)) := rfl
def par3Out (i j l : Nat) (ρ : Env) (ds : List D) (s1 : Sto) : Out Fl := match ds with
  | [a, b, c] => .ok (.nx (((ρ.set i (some a)).set j (some b)).set l (some c))) s1
  | _ => .bad
@[simp] theorem e_par3Out {c : D} {l : Nat} : par3Out n k l ρ [d, e, c] st = .ok (.nx (((ρ.set n (some d)).set k (some e)).set l (some c))) st := rfl
@[simp] theorem e_sPar3 {l : Nat} : sPar3 n k l fs ρ st = (fs ρ st).bind (par3Out n k l ρ) := rfl
end
end DL
namespace DL
open PySem PySem.Spec L2
open PyProof.Rows hiding St
section
variable {ρ : Env} {st : Sto} {fo fv : G D} {l : List D} {n : Nat} {o v : D}
def kApp2 (o v : D) (s2 : Sto) : Out D := match mLstAt o s2 with
  | some (n, l) => if l.length < LIM then .ok .non (s2.set n (.lst (l ++ [v]))) else .bad
  | none => .bad
def kApp (fv : G D) (ρ : Env) (o : D) (s1 : Sto) : Out D := match mLstAt o s1 with
  | none => .bad
  | some _ => (fv ρ s1).bind (kApp2 o)
@[simp] theorem e_App : gAppend fo fv ρ st = (fo ρ st).bind (kApp fv ρ) := rfl
theorem app_1 (h : st[n]? = some (.lst l)) : kApp fv ρ (.ref n) st = (fv ρ st).bind (kApp2 (.ref n)) := by
  simp only [kApp, mLstAt, h]
theorem app_2 (h : st[n]? = some (.lst l)) (hl : l.length < LIM) : kApp2 (.ref n) v st = .ok .non (st.set n (.lst (l ++ [v]))) := by
  simp only [kApp2, mLstAt, h, if_pos hl]
end
end DL

set_option Elab.async false
set_option linter.all false
set_option maxRecDepth 100000
set_option maxHeartbeats 2000000
/-! # Instructions, designs, the draws' row: nothing of a program's text -/
namespace CM
open PySem PySem.Spec L2 DL
open PyProof.Rows hiding St
theorem ix_at {n : Nat} {i : Int} {l : List D} {st : Sto} (h : st[n]? = some (.lst l)) : mIx (.ref n) (.int i) st = atI l i := by
  simp only [mIx, h]
theorem put_lit {n k : Nat} {l : List D} {v : D} {ρ : DL.Env} {st : Sto} (h : st[n]? = some (.lst l)) (hk : k < l.length) : putOut (.ref n) (.int (no_index (@OfNat.ofNat Int k _))) v ρ st = .ok (.nx ρ) (st.set n (.lst (l.set k v))) := by
  have hk' : ixN l.length ((k : Nat) : Int) = some k := by
    unfold ixN
    rw [if_pos (Int.natCast_nonneg k), if_pos (by omega)]
    rfl
  exact put_at h hk'
theorem get_set {n : Nat} {o u : SO} {st : Sto} (h : st[n]? = some o) : (st.set n u)[n]? = some u := by
  rw [List.getElem?_set_self (List.getElem?_eq_some_iff.mp h).1]
/-- the draws' row -/
abbrev rowS (sc : D) (p q c : Int) : SO := .lst [sc, .int p, .int q, .int c]
/-- the script, as a list or as a list that is only read -/
structure Scr (ns : List Int) (sc : D) : Prop where
  ix : ∀ i st, mIx sc (.int i) st = atI (ns.map D.int) i
  len : ∀ st, mLen [sc] st = some (.int ns.length)
theorem scr_of {ns : List Int} {sc : D} (h : sc = .ro (ns.map D.int) ∨ sc = .lst (ns.map D.int)) : Scr ns sc := by
  rcases h with rfl | rfl <;> exact ⟨fun _ _ => rfl, fun _ => by simp⟩
/-- an instruction -/
inductive Ins where
  | rd (r x : Int) | wr (x n : Int) | cp (x r : Int) | fn | gd (r n : Int)
  deriving DecidableEq
def Ins.enc : Ins → D
  | .rd r x => .tup [.str "read", .int r, .int x]
  | .wr x n => .tup [.str "write", .int x, .int n]
  | .cp x r => .tup [.str "copy", .int x, .int r]
  | .fn => .tup [.str "fence"]
  | .gd r n => .tup [.str "guard", .int r, .int n]
def Ins.ok : Ins → Prop
  | .rd r x => (0 ≤ r ∧ r ≤ 1) ∧ (0 ≤ x ∧ x ≤ 2)
  | .wr x n => (0 ≤ x ∧ x ≤ 2) ∧ (0 ≤ n ∧ n ≤ 9)
  | .cp x r => (0 ≤ x ∧ x ≤ 2) ∧ (0 ≤ r ∧ r ≤ 1)
  | .fn => True
  | .gd r n => (0 ≤ r ∧ r ≤ 1) ∧ (0 ≤ n ∧ n ≤ 9)
/-- .. as it is drawn: two cells -/
def Ins.drawn : Ins → Prop
  | .rd r x => (0 ≤ r ∧ r ≤ 1) ∧ (0 ≤ x ∧ x ≤ 1)
  | .wr x n => (0 ≤ x ∧ x ≤ 1) ∧ (1 ≤ n ∧ n ≤ 3)
  | .cp x r => (0 ≤ x ∧ x ≤ 1) ∧ (0 ≤ r ∧ r ≤ 1)
  | .fn => True
  | .gd r n => (0 ≤ r ∧ r ≤ 1) ∧ (0 ≤ n ∧ n ≤ 1)
theorem Ins.drawn.ok {i : Ins} (h : i.drawn) : i.ok := by
  cases i <;> simp only [Ins.drawn, Ins.ok] at h ⊢ <;> omega
def encC (c : List Ins) : D := .tup (c.map Ins.enc)
def encP (p : List (List Ins)) : D := .tup (p.map encC)
/-- the words of a design -/
abbrev words8 : List Str := ["gr", "gw", "own", "rr", "rw", "ss", "wr", "ww"]
/-- a program: one to three cores of at most five instructions, ten in all -/
structure POk (p : List (List Ins)) : Prop where
  ins : ∀ c ∈ p, ∀ i ∈ c, i.ok
  n1 : 1 ≤ p.length
  n3 : p.length ≤ 3
  c5 : ∀ c ∈ p, c.length ≤ 5
  all : (p.map List.length).sum ≤ 10
end CM

set_option Elab.async false
set_option linter.all false
set_option maxRecDepth 100000
set_option maxHeartbeats 2000000
namespace CM
open PySem PySem.Spec L2 DL
open PyProof.Rows hiding St
@[simp] theorem lit_eq (a b : String) : (Str.ofString a = Str.ofString b) ↔ a = b := ⟨ofString_inj, congrArg _⟩
theorem gv {ρ : DL.Env} {n : Nat} {d : D} {st : Sto} (h : ρ[n]? = some (some d)) : gVar n ρ st = .ok d st := by
  unfold gVar
  rw [h]
theorem ints_map (k : Nat) : intsD 0 k = (List.range k).map fun j : Nat => D.int (j : Int) := by simp [intsD]
theorem bls_true {α : Type} : ∀ c : List α, bls (c.map fun _ => D.bl true) = some (c.map fun _ => true)
  | [] => rfl
  | _ :: c => by rw [List.map_cons, b_cons, bls_true c]; rfl
theorem words_ok : ∀ w ∈ words8, PyData.strOk w = true := by
  intro w hw
  simp only [List.mem_cons, List.not_mem_nil, or_false] at hw
  rcases hw with rfl | rfl | rfl | rfl | rfl | rfl | rfl | rfl <;> exact strOk_of _
theorem words_asc : Asc words8 := by
  decide +kernel
/-- a part of the words in their order is a design, and nothing else -/
theorem design_iff (ss : List Str) : ss = (words8.filter fun w => decide (w ∈ ss)) ↔ (∀ s ∈ ss, s ∈ words8) ∧ ss = sortS ss := by
  constructor
  · intro h
    have hm : ∀ s ∈ ss, s ∈ words8 := fun s hs => by
      rw [h] at hs
      exact (List.mem_filter.mp hs).1
    refine ⟨hm, ?_⟩
    have ha : Asc ss := by
      rw [h]
      exact words_asc.filter _
    exact asc_one ha (asc_sortS ss) fun z => mem_sortS.symm
  · rintro ⟨hm, h⟩
    have ha : Asc ss := by
      rw [h]
      exact asc_sortS ss
    refine asc_one ha (words_asc.filter _) fun z => ?_
    simp only [List.mem_filter, decide_eq_true_eq]
    exact ⟨fun hz => ⟨hm z hz, hz⟩, fun hz => hz.2⟩
theorem sub_design (ss : List Str) (h : ss.Sublist words8) : ss = (words8.filter fun w => decide (w ∈ ss)) := by
  have ha : Asc ss := words_asc.sublist h
  exact (design_iff ss).mpr ⟨fun s hs => h.subset hs, asc_one ha (asc_sortS ss) fun z => mem_sortS.symm⟩
theorem des_ok {sub : List Str} (h : sub.Sublist words8) : (sub.map D.str).all (okB 63) = true := okB_strs fun s hs => words_ok s (h.subset hs)
theorem in_des {sub : List Str} (h : sub.Sublist words8) (w : String) (st : Sto) : mIn false (.str (Str.ofString w)) (.tup (sub.map D.str)) st = some (.bl (decide (Str.ofString w ∈ sub))) := by
  rw [in_tup, ok_lit, ok_tup, des_ok h, any_strs]
  rfl
theorem nin_des {sub : List Str} (h : sub.Sublist words8) (w : String) (st : Sto) : mIn true (.str (Str.ofString w)) (.tup (sub.map D.str)) st = some (.bl (!decide (Str.ofString w ∈ sub))) := by
  rw [in_tup, ok_lit, ok_tup, des_ok h, any_strs]
  rfl
/-- data of the same form at every place, not deeper than n -/
def alk : Nat → D → Bool
  | 0, _ => false
  | n + 1, .tup l => l.all (alk n) && decide (l.length ≤ 1000)
  | n + 1, .lst l => l.all (alk n) && decide (l.length ≤ 1000)
  | _ + 1, .str x => PyData.strOk x
  | _ + 1, .int _ => true
  | _ + 1, .bl _ => true
  | _ + 1, .non => true
  | _ + 1, _ => false
theorem atI_mem {l : List D} {k : Nat} (h : k < l.length) : atI l ((k : Nat) : Int) = some l[k] := atI_nat (by simp [h])
end CM

set_option Elab.async false
set_option linter.all false
set_option maxRecDepth 100000
set_option maxHeartbeats 4000000
/-! # The texts of programs and designs -/
namespace CM
open PySem PySem.Spec L2 DL
open PyProof.Rows hiding St
/-! how a joined text is made -/
theorem join_mem {a : Str} {ch : Nat} : ∀ {ys : List Str}, ch ∈ TL.tl (Txt.join a ys) → ch ∈ TL.tl a ∨ ∃ y ∈ ys, ch ∈ TL.tl y := by
  intro ys h
  rw [TL.join_eq, TL.tl_join] at h
  have key : ∀ (S : List Nat) (l : List (List Nat)), ch ∈ TL.joinL S l → ch ∈ S ∨ ∃ y ∈ l, ch ∈ y := by
    intro S l
    induction l with
    | nil => intro h; simp [TL.joinL] at h
    | cons p r ih =>
      intro h
      cases r with
      | nil => exact .inr ⟨p, by simp, by simpa [TL.joinL] using h⟩
      | cons q r =>
        have h : ch ∈ p ++ (S ++ TL.joinL S (q :: r)) := h
        rcases List.mem_append.mp h with h | h
        · exact .inr ⟨p, by simp, h⟩
        · rcases List.mem_append.mp h with h | h
          · exact .inl h
          · rcases ih h with h | ⟨y, hy, h⟩
            · exact .inl h
            · exact .inr ⟨y, List.mem_cons_of_mem _ hy, h⟩
  rcases key _ _ h with h | ⟨y, hy, h⟩
  · exact .inl h
  · obtain ⟨z, hz, rfl⟩ := List.mem_map.mp hy
    exact .inr ⟨z, hz, h⟩
theorem join_len (a : Str) (ys : List Str) : (Txt.join a ys).length ≤ (ys.map (·.length)).sum + ys.length * a.length := by
  rw [TL.join_eq]
  exact StrLaws.join_length_le a ys
/-- the sign that a joined text begins with -/
theorem join_head {a y : Str} {ys : List Str} {ch : Nat} {r : List Nat} (h : TL.tl y = ch :: r) : ∃ r', TL.tl (Txt.join a (y :: ys)) = ch :: r' := by
  rw [TL.join_eq, TL.tl_join]
  cases ys with
  | nil => exact ⟨r, by simpa [TL.joinL] using h⟩
  | cons z ys => exact ⟨r ++ (TL.tl a ++ TL.joinL (TL.tl a) (TL.tl z :: ys.map TL.tl)), by simp [TL.joinL, h]⟩
theorem str_ne {x y : Str} {a b : Nat} {r r' : List Nat} (hx : TL.tl x = a :: r) (hy : TL.tl y = b :: r') (h : a ≠ b) : x ≠ y := by
  rintro rfl
  rw [hx] at hy
  exact h (List.cons.inj hy).1
theorem strOk_low {x : Str} (h : ∀ ch ∈ TL.tl x, ch < 1114112) : PyData.strOk x = true := by
  unfold PyData.strOk
  rw [Array.all_eq_true']
  intro n hn
  exact decide_eq_true (h n (by simpa using hn))
theorem sum_le {l : List Nat} {b : Nat} (h : ∀ x ∈ l, x ≤ b) : l.sum ≤ l.length * b := by
  induction l with
  | nil => simp
  | cons x l ih =>
    have h1 := h x List.mem_cons_self
    have h2 := ih fun y hy => h y (List.mem_cons_of_mem _ hy)
    simp only [List.sum_cons, List.length_cons, Nat.succ_mul]
    omega
/-! digits -/
/-- a digit's text -/
def dg (n : Int) : Str := Str.ofString (toString n)
theorem dg_nat {n : Nat} (h : n < 10) : TL.tl (dg (n : Int)) = [48 + n] := by
  unfold dg
  rw [TL.tl_num, TL.numL_lt h]
theorem dg_of {n : Int} (h : 0 ≤ n ∧ n ≤ 9) : ∃ k : Nat, n = (k : Int) ∧ k < 10 := ⟨n.toNat, by omega, by omega⟩
theorem dg_tl {n : Int} (h : 0 ≤ n ∧ n ≤ 9) : ∃ k : Nat, k < 10 ∧ n = (k : Int) ∧ TL.tl (dg n) = [48 + k] := by
  obtain ⟨k, rfl, hk⟩ := dg_of h
  exact ⟨k, hk, rfl, dg_nat hk⟩
theorem log_dg {n : Int} (h : 0 ≤ n ∧ n ≤ 9) : n.natAbs.log2 < 1920 := by
  obtain ⟨k, rfl, hk⟩ := dg_of h
  have : k = 0 ∨ k = 1 ∨ k = 2 ∨ k = 3 ∨ k = 4 ∨ k = 5 ∨ k = 6 ∨ k = 7 ∨ k = 8 ∨ k = 9 := by omega
  rcases this with rfl | rfl | rfl | rfl | rfl | rfl | rfl | rfl | rfl | rfl <;> decide +kernel
theorem dg_facts : ∀ k : Nat, k < 10 → Txt.isascii (dg k) = true ∧ Txt.isdigit (dg k) = true ∧ (dg k).length = 1 ∧ PySem.intText? (dg k) = some (k : Int) ∧ (k ≠ 0 → Txt.startswith (dg k) "0" = false) ∧ PyData.strOk (dg k) = true := by
  decide +kernel
/-! instructions -/
def Ins.strs : Ins → List Str
  | .rd r x => ["read", dg r, dg x]
  | .wr x n => ["write", dg x, dg n]
  | .cp x r => ["copy", dg x, dg r]
  | .fn => ["fence"]
  | .gd r n => ["guard", dg r, dg n]
def Ins.nums : Ins → List Int
  | .rd r x => [r, x]
  | .wr x n => [x, n]
  | .cp x r => [x, r]
  | .fn => []
  | .gd r n => [r, n]
def Ins.name : Ins → Str
  | .rd _ _ => "read"
  | .wr _ _ => "write"
  | .cp _ _ => "copy"
  | .fn => "fence"
  | .gd _ _ => "guard"
theorem Ins.enc_eq (i : Ins) : i.enc = .tup (.str i.name :: i.nums.map D.int) := by cases i <;> rfl
theorem Ins.strs_eq (i : Ins) : i.strs = i.name :: i.nums.map dg := by cases i <;> rfl
theorem Ins.nums_ok {i : Ins} (h : i.ok) : ∀ n ∈ i.nums, 0 ≤ n ∧ n ≤ 9 := by
  intro n hn
  cases i <;> simp only [Ins.nums, List.mem_cons, List.not_mem_nil, or_false] at hn <;> simp only [Ins.ok] at h
  all_goals omega
theorem name_mem (i : Ins) : i.name ∈ [("read" : Str), "write", "copy", "fence", "guard"] := by cases i <;> simp [Ins.name]
theorem names_ch : ∀ w ∈ [("read" : Str), "write", "copy", "fence", "guard"], (∀ ch ∈ TL.tl w, 97 ≤ ch ∧ ch ≤ 122) ∧ w.length ≤ 5 ∧ TL.tl w ≠ [] := by
  decide +kernel
/-- the signs of words -/
abbrev chW (ch : Nat) : Prop := (48 ≤ ch ∧ ch ≤ 57) ∨ (97 ≤ ch ∧ ch ≤ 122)
theorem strs_ch {i : Ins} (h : i.ok) : ∀ w ∈ i.strs, (∀ ch ∈ TL.tl w, chW ch) ∧ w.length ≤ 5 := by
  intro w hw
  rw [Ins.strs_eq] at hw
  rcases List.mem_cons.mp hw with rfl | hw
  · have q := names_ch _ (name_mem i)
    exact ⟨fun ch hc => .inr (q.1 ch hc), q.2.1⟩
  · obtain ⟨n, hn, rfl⟩ := List.mem_map.mp hw
    obtain ⟨k, hk, rfl, e⟩ := dg_tl (Ins.nums_ok h n hn)
    refine ⟨fun ch hc => ?_, ?_⟩
    · rw [e, List.mem_singleton] at hc
      left; omega
    · rw [(dg_facts k hk).2.2.1]; decide
def partT (i : Ins) : Str := Txt.join " " i.strs
theorem strs_len (i : Ins) : i.strs.length ≤ 3 := by cases i <;> simp [Ins.strs]
theorem strs_sum {i : Ins} (h : i.ok) : (i.strs.map (·.length)).sum + i.strs.length * 1 ≤ 18 := by
  have h1 := sum_le (l := i.strs.map (·.length)) (b := 5) fun x hx => by
    obtain ⟨w, hw, rfl⟩ := List.mem_map.mp hx
    exact (strs_ch h w hw).2
  rw [List.length_map] at h1
  have h2 := strs_len i
  have h3 : i.strs.length * 5 ≤ 15 := by omega
  omega
theorem part_ch {i : Ins} (h : i.ok) : ∀ ch ∈ TL.tl (partT i), chW ch ∨ ch = 32 := by
  intro ch hc
  rcases join_mem hc with hc | ⟨w, hw, hc⟩
  · right
    have : TL.tl (" " : Str) = [32] := by decide +kernel
    rw [this] at hc
    exact List.mem_singleton.mp hc
  · exact .inl ((strs_ch h w hw).1 ch hc)
theorem part_len {i : Ins} (h : i.ok) : (partT i).length ≤ 18 := by
  have h1 := join_len " " i.strs
  have h2 := strs_sum h
  have h3 : (" " : Str).length = 1 := by decide +kernel
  rw [h3] at h1
  exact Nat.le_trans h1 h2
theorem part_head (i : Ins) : ∃ ch r, TL.tl (partT i) = ch :: r ∧ 97 ≤ ch := by
  obtain ⟨h1, _, h2⟩ := names_ch _ (name_mem i)
  cases e : TL.tl i.name with
  | nil => exact absurd e h2
  | cons ch r =>
    unfold partT
    rw [Ins.strs_eq]
    obtain ⟨r', e'⟩ := join_head (a := " ") (ys := i.nums.map dg) e
    exact ⟨ch, r', e', (h1 ch (by rw [e]; exact List.mem_cons_self)).1⟩
theorem part_split {i : Ins} (h : i.ok) : Txt.split (partT i) " " = i.strs :=
  TL.split_join (s := 32) (S := []) (by decide +kernel) (by decide +kernel) (by cases i <;> simp [Ins.strs]) fun w hw hc => by
    have := (strs_ch h w hw).1 32 hc
    simp [chW] at this
def lineT (c : List Ins) : Str := Txt.join "; " (c.map partT)
theorem line_ch {c : List Ins} (h : ∀ i ∈ c, i.ok) : ∀ ch ∈ TL.tl (lineT c), chW ch ∨ ch = 32 ∨ ch = 59 := by
  intro ch hc
  rcases join_mem hc with hc | ⟨w, hw, hc⟩
  · have : TL.tl ("; " : Str) = [59, 32] := by decide +kernel
    rw [this] at hc
    simp only [List.mem_cons, List.not_mem_nil, or_false] at hc
    omega
  · obtain ⟨i, hi, rfl⟩ := List.mem_map.mp hw
    rcases part_ch (h i hi) ch hc with hc | hc
    · exact .inl hc
    · exact .inr (.inl hc)
theorem line_sum {c : List Ins} (h : ∀ i ∈ c, i.ok) (h5 : c.length ≤ 5) : ((c.map partT).map (·.length)).sum + (c.map partT).length * 2 ≤ 100 := by
  have h1 := sum_le (l := (c.map partT).map (·.length)) (b := 18) fun x hx => by
    obtain ⟨w, hw, rfl⟩ := List.mem_map.mp hx
    obtain ⟨i, hi, rfl⟩ := List.mem_map.mp hw
    exact part_len (h i hi)
  simp only [List.length_map] at h1 ⊢
  omega
theorem line_len {c : List Ins} (h : ∀ i ∈ c, i.ok) (h5 : c.length ≤ 5) : (lineT c).length ≤ 100 := by
  have h1 := join_len "; " (c.map partT)
  have h2 := line_sum h h5
  have h3 : ("; " : Str).length = 2 := by decide +kernel
  rw [h3] at h1
  exact Nat.le_trans h1 h2
theorem line_head {c : List Ins} (hc : c ≠ []) : ∃ ch r, TL.tl (lineT c) = ch :: r ∧ 97 ≤ ch := by
  cases c with
  | nil => exact absurd rfl hc
  | cons i c =>
    obtain ⟨ch, r, e, h⟩ := part_head i
    obtain ⟨r', e'⟩ := join_head (a := "; ") (ys := c.map partT) e
    exact ⟨ch, r', e', h⟩
theorem line_split {c : List Ins} (h : ∀ i ∈ c, i.ok) (hc : c ≠ []) : Txt.split (lineT c) "; " = c.map partT :=
  TL.split_join (s := 59) (S := [32]) (by decide +kernel) (by decide +kernel) (by simpa using hc) fun w hw hm => by
    obtain ⟨i, hi, rfl⟩ := List.mem_map.mp hw
    have := part_ch (h i hi) 59 hm
    simp [chW] at this
/-- the text of a core -/
def coreT (c : List Ins) : Str := if c = [] then "-" else lineT c
theorem coreT_nil : coreT [] = "-" := rfl
theorem coreT_ne {c : List Ins} (h : c ≠ []) : coreT c = lineT c := if_neg h
theorem line_nil : lineT [] = "" := by decide +kernel
theorem line_ne {c : List Ins} (h : c ≠ []) : lineT c ≠ "" ∧ lineT c ≠ "-" := by
  obtain ⟨ch, r, e, hc⟩ := line_head h
  refine ⟨fun z => ?_, ?_⟩
  · rw [z, show TL.tl ("" : Str) = [] by decide +kernel] at e
    cases e
  · exact str_ne e (b := 45) (r' := []) (by decide +kernel) (by omega)
theorem coreT_ch {c : List Ins} (h : ∀ i ∈ c, i.ok) : ∀ ch ∈ TL.tl (coreT c), ch ≠ 10 ∧ ch < 128 := by
  intro ch hc
  unfold coreT at hc
  split at hc
  · have : TL.tl ("-" : Str) = [45] := by decide +kernel
    rw [this, List.mem_singleton] at hc
    omega
  · rcases line_ch h ch hc with hc | hc | hc
    · simp only [chW] at hc; omega
    · omega
    · omega
theorem coreT_len {c : List Ins} (h : ∀ i ∈ c, i.ok) (h5 : c.length ≤ 5) : (coreT c).length ≤ 100 := by
  unfold coreT
  split
  · decide +kernel
  · exact line_len h h5
theorem coreT_ok {c : List Ins} (h : ∀ i ∈ c, i.ok) : PyData.strOk (coreT c) = true := strOk_low fun ch hc => by have := (coreT_ch h ch hc).2; omega
theorem line_ok {c : List Ins} (h : ∀ i ∈ c, i.ok) : PyData.strOk (lineT c) = true := strOk_low fun ch hc => by
  rcases line_ch h ch hc with hc | hc | hc
  · simp only [chW] at hc; omega
  · omega
  · omega
/-- the text of a program -/
def progT (p : List (List Ins)) : Str := Txt.join "\n" (p.map coreT)
theorem prog_sum {p : List (List Ins)} (h : POk p) : ((p.map coreT).map (·.length)).sum + (p.map coreT).length * 1 ≤ 303 := by
  have h1 := sum_le (l := (p.map coreT).map (·.length)) (b := 100) fun x hx => by
    obtain ⟨w, hw, rfl⟩ := List.mem_map.mp hx
    obtain ⟨c, hc, rfl⟩ := List.mem_map.mp hw
    exact coreT_len (h.ins c hc) (h.c5 c hc)
  simp only [List.length_map] at h1 ⊢
  have := h.n3
  omega
theorem prog_len {p : List (List Ins)} (h : POk p) : (progT p).length ≤ 303 := by
  have h1 := join_len "\n" (p.map coreT)
  have h2 := prog_sum h
  have h3 : ("\n" : Str).length = 1 := by decide +kernel
  rw [h3] at h1
  exact Nat.le_trans h1 h2
theorem prog_split {p : List (List Ins)} (h : POk p) : Txt.split (progT p) "\n" = p.map coreT :=
  TL.split_join (s := 10) (S := []) (by decide +kernel) (by decide +kernel) (by have := h.n1; intro z; rw [List.map_eq_nil_iff] at z; rw [z] at this; simp at this) fun w hw hm => by
    obtain ⟨c, hc, rfl⟩ := List.mem_map.mp hw
    exact (coreT_ch (h.ins c hc) 10 hm).1 rfl
theorem prog_ok {p : List (List Ins)} (h : POk p) : PyData.strOk (progT p) = true := strOk_low fun ch hc => by
  rcases join_mem hc with hc | ⟨w, hw, hc⟩
  · have : TL.tl ("\n" : Str) = [10] := by decide +kernel
    rw [this, List.mem_singleton] at hc
    omega
  · obtain ⟨c, hc', rfl⟩ := List.mem_map.mp hw
    have := (coreT_ch (h.ins c hc') ch hc).2
    omega
/-! designs -/
def desT (sub : List Str) : Str := if sub = [] then "-" else Txt.join " " sub
theorem words_ch : ∀ w ∈ words8, (∀ ch ∈ TL.tl w, 97 ≤ ch ∧ ch ≤ 122) ∧ w.length ≤ 3 ∧ TL.tl w ≠ [] := by
  decide +kernel
theorem des_split {sub : List Str} (h : sub.Sublist words8) (hn : sub ≠ []) : Txt.split (Txt.join " " sub) " " = sub :=
  TL.split_join (s := 32) (S := []) (by decide +kernel) (by decide +kernel) hn fun w hw hm => by
    have := (words_ch w (h.subset hw)).1 32 hm
    omega
theorem des_head {sub : List Str} (h : sub.Sublist words8) (hn : sub ≠ []) : ∃ ch r, TL.tl (Txt.join " " sub) = ch :: r ∧ 97 ≤ ch := by
  cases sub with
  | nil => exact absurd rfl hn
  | cons w sub =>
    obtain ⟨h1, _, h2⟩ := words_ch w (h.subset List.mem_cons_self)
    cases e : TL.tl w with
    | nil => exact absurd e h2
    | cons ch r =>
      obtain ⟨r', e'⟩ := join_head (a := " ") (ys := sub) e
      exact ⟨ch, r', e', (h1 ch (by rw [e]; exact List.mem_cons_self)).1⟩
theorem des_ne {sub : List Str} (h : sub.Sublist words8) (hn : sub ≠ []) : Txt.join " " sub ≠ "-" := by
  obtain ⟨ch, r, e, hc⟩ := des_head h hn
  exact str_ne e (b := 45) (r' := []) (by decide +kernel) (by omega)
theorem des_sum {sub : List Str} (h : sub.Sublist words8) : (sub.map (·.length)).sum + sub.length * 1 ≤ 32 := by
  have h1 := sum_le (l := sub.map (·.length)) (b := 3) fun x hx => by
    obtain ⟨w, hw, rfl⟩ := List.mem_map.mp hx
    exact (words_ch w (h.subset hw)).2.1
  have h2 : sub.length ≤ 8 := h.length_le
  rw [List.length_map] at h1
  omega
theorem des_len {sub : List Str} (h : sub.Sublist words8) : (Txt.join " " sub).length ≤ 32 := by
  have h1 := join_len " " sub
  have h3 : (" " : Str).length = 1 := by decide +kernel
  rw [h3] at h1
  exact Nat.le_trans h1 (des_sum h)
theorem des_strOk {sub : List Str} (h : sub.Sublist words8) : PyData.strOk (Txt.join " " sub) = true := strOk_low fun ch hc => by
  rcases join_mem hc with hc | ⟨w, hw, hc⟩
  · have : TL.tl (" " : Str) = [32] := by decide +kernel
    rw [this, List.mem_singleton] at hc
    omega
  · have := (words_ch w (h.subset hw)).1 ch hc
    omega
theorem sp_len : (" " : Str).length = 1 := by decide +kernel
theorem sc_len : ("; " : Str).length = 2 := by decide +kernel
theorem nl_len : ("\n" : Str).length = 1 := by decide +kernel
end CM

set_option Elab.async false
set_option linter.all false
set_option maxRecDepth 100000
set_option maxHeartbeats 2000000
namespace K10
open PySem PySem.Spec L2 DL
open PyProof.Rows hiding St
def topS (i : Nat) : Stmt := PySem.Challenge.pw_pairskept_k10_whole_texts.main.body.getD i (.Pass ⟨0, 0, 0, 0⟩)
abbrev s__law_alike : Stmt := topS 34
abbrev N__law_alike : List Str := ["found", "due", "k"]
theorem sc__law_alike : FnScope N__law_alike ["found", "due"] (defScope s__law_alike) := ⟨rfl, rfl, rfl, by decide +kernel, rfl, by decide +kernel, by decide +kernel⟩
abbrev s__law_taken : Stmt := topS 32
abbrev N__law_taken : List Str := ["row", "many", "found", "cell"]
theorem sc__law_taken : FnScope N__law_taken ["row", "many"] (defScope s__law_taken) := ⟨rfl, rfl, rfl, by decide +kernel, rfl, by decide +kernel, by decide +kernel⟩
abbrev s__law_design : Stmt := topS 37
abbrev N__law_design : List Str := ["row", "word"]
theorem sc__law_design : FnScope N__law_design ["row"] (defScope s__law_design) := ⟨rfl, rfl, rfl, by decide +kernel, rfl, by decide +kernel, by decide +kernel⟩
abbrev s__law_pick : Stmt := topS 33
abbrev N__law_pick : List Str := ["row", "kinds"]
theorem sc__law_pick : FnScope N__law_pick ["row", "kinds"] (defScope s__law_pick) := ⟨rfl, rfl, rfl, by decide +kernel, rfl, by decide +kernel, by decide +kernel⟩
abbrev s__law_instruction : Stmt := topS 35
abbrev N__law_instruction : List Str := ["row", "kind"]
theorem sc__law_instruction : FnScope N__law_instruction ["row"] (defScope s__law_instruction) := ⟨rfl, rfl, rfl, by decide +kernel, rfl, by decide +kernel, by decide +kernel⟩
abbrev s__law_program : Stmt := topS 36
abbrev N__law_program : List Str := ["row", "most", "left", "found", "turn", "many", "step"]
theorem sc__law_program : FnScope N__law_program ["row", "most"] (defScope s__law_program) := ⟨rfl, rfl, rfl, by decide +kernel, rfl, by decide +kernel, by decide +kernel⟩
abbrev s_check_text : Stmt := topS 25
abbrev N_check_text : List Str := ["value"]
theorem sc_check_text : FnScope N_check_text ["value"] (defScope s_check_text) := ⟨rfl, rfl, rfl, by decide +kernel, rfl, by decide +kernel, by decide +kernel⟩
abbrev s_is_design : Stmt := topS 17
abbrev N_is_design : List Str := ["value", "word"]
theorem sc_is_design : FnScope N_is_design ["value"] (defScope s_is_design) := ⟨rfl, rfl, rfl, by decide +kernel, rfl, by decide +kernel, by decide +kernel⟩
abbrev s_read_design : Stmt := topS 24
abbrev N_read_design : List Str := ["text", "design"]
theorem sc_read_design : FnScope N_read_design ["text"] (defScope s_read_design) := ⟨rfl, rfl, rfl, by decide +kernel, rfl, by decide +kernel, by decide +kernel⟩
abbrev s_is_number : Stmt := topS 11
abbrev N_is_number : List Str := ["value", "greatest"]
theorem sc_is_number : FnScope N_is_number ["value", "greatest"] (defScope s_is_number) := ⟨rfl, rfl, rfl, by decide +kernel, rfl, by decide +kernel, by decide +kernel⟩
abbrev s_is_instruction : Stmt := topS 12
abbrev N_is_instruction : List Str := ["value", "limits", "number", "limit"]
theorem sc_is_instruction : FnScope N_is_instruction ["value"] (defScope s_is_instruction) := ⟨rfl, rfl, rfl, by decide +kernel, rfl, by decide +kernel, by decide +kernel⟩
abbrev s_is_core : Stmt := topS 13
abbrev N_is_core : List Str := ["value", "item"]
theorem sc_is_core : FnScope N_is_core ["value"] (defScope s_is_core) := ⟨rfl, rfl, rfl, by decide +kernel, rfl, by decide +kernel, by decide +kernel⟩
abbrev s_is_numeral : Stmt := topS 30
abbrev N_is_numeral : List Str := ["word"]
theorem sc_is_numeral : FnScope N_is_numeral ["word"] (defScope s_is_numeral) := ⟨rfl, rfl, rfl, by decide +kernel, rfl, by decide +kernel, by decide +kernel⟩
abbrev s_read_number : Stmt := topS 29
abbrev N_read_number : List Str := ["word"]
theorem sc_read_number : FnScope N_read_number ["word"] (defScope s_read_number) := ⟨rfl, rfl, rfl, by decide +kernel, rfl, by decide +kernel, by decide +kernel⟩
abbrev s_read_items : Stmt := topS 28
abbrev N_read_items : List Str := ["part", "words", "word"]
theorem sc_read_items : FnScope N_read_items ["part"] (defScope s_read_items) := ⟨rfl, rfl, rfl, by decide +kernel, rfl, by decide +kernel, by decide +kernel⟩
abbrev s_read_core : Stmt := topS 27
abbrev N_read_core : List Str := ["line", "core", "part"]
theorem sc_read_core : FnScope N_read_core ["line"] (defScope s_read_core) := ⟨rfl, rfl, rfl, by decide +kernel, rfl, by decide +kernel, by decide +kernel⟩
abbrev s_read_program : Stmt := topS 22
abbrev N_read_program : List Str := ["text", "program", "left", "at", "line", "core"]
theorem sc_read_program : FnScope N_read_program ["text"] (defScope s_read_program) := ⟨rfl, rfl, rfl, by decide +kernel, rfl, by decide +kernel, by decide +kernel⟩
abbrev s_check_design : Stmt := topS 18
abbrev N_check_design : List Str := ["value"]
theorem sc_check_design : FnScope N_check_design ["value"] (defScope s_check_design) := ⟨rfl, rfl, rfl, by decide +kernel, rfl, by decide +kernel, by decide +kernel⟩
abbrev s_write_design : Stmt := topS 23
abbrev N_write_design : List Str := ["design"]
theorem sc_write_design : FnScope N_write_design ["design"] (defScope s_write_design) := ⟨rfl, rfl, rfl, by decide +kernel, rfl, by decide +kernel, by decide +kernel⟩
abbrev s_check_program : Stmt := topS 14
abbrev N_check_program : List Str := ["value", "total", "at", "core"]
theorem sc_check_program : FnScope N_check_program ["value"] (defScope s_check_program) := ⟨rfl, rfl, rfl, by decide +kernel, rfl, by decide +kernel, by decide +kernel⟩
abbrev s_write_core : Stmt := topS 26
abbrev N_write_core : List Str := ["core", "instruction", "item"]
theorem sc_write_core : FnScope N_write_core ["core"] (defScope s_write_core) := ⟨rfl, rfl, rfl, by decide +kernel, rfl, by decide +kernel, by decide +kernel⟩
abbrev s_write_program : Stmt := topS 21
abbrev N_write_program : List Str := ["program", "core"]
theorem sc_write_program : FnScope N_write_program ["program"] (defScope s_write_program) := ⟨rfl, rfl, rfl, by decide +kernel, rfl, by decide +kernel, by decide +kernel⟩
abbrev s_law : Stmt := topS 38
abbrev N_law : List Str := ["script", "row", "program", "design", "lines", "core", "line", "text", "one", "item"]
theorem sc_law : FnScope N_law ["script"] (defScope s_law) := ⟨rfl, rfl, rfl, by decide +kernel, rfl, by decide +kernel, by decide +kernel⟩
def c_WORDS : D := .tup [.str "gr", .str "gw", .str "own", .str "rr", .str "rw", .str "ss", .str "wr", .str "ww"]
def t_GREATEST : List (Str × D) := [("read", .tup [.int 1, .int 2]), ("write", .tup [.int 2, .int 9]), ("copy", .tup [.int 2, .int 1]), ("fence", .tup []), ("guard", .tup [.int 1, .int 9])]
def g__law_alike (rec : List D → Sto → Out D) : G Fl :=
  (sSeq (sIf (gTr (gCB mIsiT (aCons (gVar 1) (aCons (gTupD (aCons (gC (.raw (.ty "tuple"))) (aCons (gC (.raw (.ty "list"))) aNil))) aNil)))) (sSeq (sIf (gTOr (gTNot (gTr (gCB mIsiT (aCons (gVar 0) (aCons (gTupD (aCons (gC (.raw (.ty "tuple"))) (aCons (gC (.raw (.ty "list"))) aNil))) aNil))))) (gBl (gOp mNe (gCB mIsi (aCons (gVar 0) (aCons (gC (.raw (.ty "list"))) aNil))) (gCB mIsi (aCons (gVar 1) (aCons (gC (.raw (.ty "list"))) aNil)))))) (sRet (gC (.bl false))) sNext) (sSeq (sIf (gBl (gOp mNe (gCB mLen (aCons (gVar 0) aNil)) (gCB mLen (aCons (gVar 1) aNil)))) (sRet (gC (.bl false))) sNext) (sRet (gOp mEq (gComp [2] (gRange1 (aCons (gCB mLen (aCons (gVar 1) aNil)) aNil)) (.nm 2) (gTNot (gTr (gCall rec (aCons (gOp mIx (gVar 0) (gVar 2)) (aCons (gOp mIx (gVar 1) (gVar 2)) aNil))))) (gVar 2)) (gLstD aNil))))) sNext) (sSeq (sIf (gTOr (gBl (gOp mIs (gVar 1) (gC .non))) (gTr (gCB mIsi (aCons (gVar 1) (aCons (gC (.raw (.ty "str"))) aNil))))) (sRet (gAnd (gOp mEq (gVar 0) (gVar 1)) (gOp mEq (gCB mIsi (aCons (gVar 0) (aCons (gC (.raw (.ty "str"))) aNil))) (gCB mIsi (aCons (gVar 1) (aCons (gC (.raw (.ty "str"))) aNil)))))) sNext) (sRet (gAnd (gCB mIsi (aCons (gVar 0) (aCons (gC (.raw (.ty "int"))) aNil))) (gAnd (gOp mEq (gCB mIsi (aCons (gVar 0) (aCons (gC (.raw (.ty "bool"))) aNil))) (gCB mIsi (aCons (gVar 1) (aCons (gC (.raw (.ty "bool"))) aNil)))) (gOp mEq (gVar 0) (gVar 1)))))))
def m__law_alike : Nat → List D → Sto → Out D
  | 0 => gFun 3 sBad
  | n + 1 => gFun 3 (g__law_alike (m__law_alike n))
def g__law_taken : G Fl :=
  (sSeq (sIf (gBl (gOp mGt (gOp mIx (gVar 0) (gC (.int 3))) (gC (.int 0)))) (sSeq (sSet 2 (gOp mMod (gCB mInt (aCons (gOp mIx (gVar 0) (gC (.int 3))) aNil)) (gVar 1))) (sSeq (sPut (gVar 0) (gC (.int 3)) (gOp mFdiv (gOp mIx (gVar 0) (gC (.int 3))) (gVar 1))) (sRet (gVar 2)))) sNext) (sSeq (sPut (gVar 0) (gC (.int 1)) (gOp mAdd (gOp mIx (gVar 0) (gC (.int 1))) (gC (.int 1)))) (sSeq (sIf (gBl (gOp mGt (gOp mIx (gVar 0) (gC (.int 1))) (gCB mLen (aCons (gOp mIx (gVar 0) (gC (.int 0))) aNil)))) (sSeq (sPut (gVar 0) (gC (.int 2)) (gOp mMod (gCB mInt (aCons (gOp mAdd (gOp mMul (gOp mIx (gVar 0) (gC (.int 2))) (gC (.int 48271))) (gC (.int 11))) aNil)) (gC (.int 2147483647)))) (sRet (gOp mMod (gCB mInt (aCons (gOp mFdiv (gOp mIx (gVar 0) (gC (.int 2))) (gC (.int 7))) aNil)) (gVar 1)))) sNext) (sSeq (sSet 3 (gOp mIx (gOp mIx (gVar 0) (gC (.int 0))) (gOp mSub (gOp mIx (gVar 0) (gC (.int 1))) (gC (.int 1))))) (sSeq (sPut (gVar 0) (gC (.int 2)) (gOp mMod (gCB mInt (aCons (gOp mAdd (gOp mAdd (gOp mMul (gOp mIx (gVar 0) (gC (.int 2))) (gC (.int 48271))) (gVar 3)) (gC (.int 11))) aNil)) (gC (.int 2147483647)))) (sSeq (sIf (gBl (gOp mGe (gVar 3) (gOp mPow (gC (.int 10)) (gC (.int 18))))) (sPut (gVar 0) (gC (.int 3)) (gOp mFdiv (gVar 3) (gVar 1))) sNext) (sRet (gOp mMod (gCB mInt (aCons (gVar 3) aNil)) (gVar 1)))))))))
def m__law_taken : List D → Sto → Out D := gFun 4 g__law_taken
def g__law_design : G Fl :=
  (sRet (gCB mTuple (aCons (gComp [1] (gSeq (gLstD (aCons (gC (.str "gr")) (aCons (gC (.str "gw")) (aCons (gC (.str "own")) (aCons (gC (.str "rr")) (aCons (gC (.str "rw")) (aCons (gC (.str "ss")) (aCons (gC (.str "wr")) (aCons (gC (.str "ww")) aNil)))))))))) (.nm 1) (gBl (gOp mEq (gCall m__law_taken (aCons (gVar 0) (aCons (gC (.int 2)) aNil))) (gC (.int 0)))) (gVar 1)) aNil)))
def m__law_design : List D → Sto → Out D := gFun 2 g__law_design
def g__law_pick : G Fl :=
  (sRet (gOp mIx (gVar 1) (gCall m__law_taken (aCons (gVar 0) (aCons (gCB mLen (aCons (gVar 1) aNil)) aNil)))))
def m__law_pick : List D → Sto → Out D := gFun 2 g__law_pick
def g__law_instruction : G Fl :=
  (sSeq (sSet 1 (gCall m__law_pick (aCons (gVar 0) (aCons (gLstD (aCons (gC (.str "read")) (aCons (gC (.str "read")) (aCons (gC (.str "read")) (aCons (gC (.str "write")) (aCons (gC (.str "write")) (aCons (gC (.str "write")) (aCons (gC (.str "copy")) (aCons (gC (.str "fence")) (aCons (gC (.str "guard")) aNil)))))))))) aNil)))) (sSeq (sIf (gBl (gOp mEq (gVar 1) (gC (.str "fence")))) (sRet (gTupD (aCons (gC (.str "fence")) aNil))) sNext) (sSeq (sIf (gBl (gOp mEq (gVar 1) (gC (.str "write")))) (sRet (gTupD (aCons (gC (.str "write")) (aCons (gCall m__law_taken (aCons (gVar 0) (aCons (gC (.int 2)) aNil))) (aCons (gOp mAdd (gC (.int 1)) (gCall m__law_taken (aCons (gVar 0) (aCons (gC (.int 3)) aNil)))) aNil))))) sNext) (sSeq (sIf (gBl (gOp mEq (gVar 1) (gC (.str "copy")))) (sRet (gTupD (aCons (gC (.str "copy")) (aCons (gCall m__law_taken (aCons (gVar 0) (aCons (gC (.int 2)) aNil))) (aCons (gCall m__law_taken (aCons (gVar 0) (aCons (gC (.int 2)) aNil))) aNil))))) sNext) (sRet (gTupD (aCons (gVar 1) (aCons (gCall m__law_taken (aCons (gVar 0) (aCons (gC (.int 2)) aNil))) (aCons (gCall m__law_taken (aCons (gVar 0) (aCons (gC (.int 2)) aNil))) aNil)))))))))
def m__law_instruction : List D → Sto → Out D := gFun 2 g__law_instruction
def g__law_program : G Fl :=
  (sSeq (sPar 2 3 (aCons (gVar 1) (aCons (gTupD aNil) aNil))) (sSeq (sFor (gRange1 (aCons (gOp mAdd (gC (.int 1)) (gCall m__law_pick (aCons (gVar 0) (aCons (gLstD (aCons (gC (.int 0)) (aCons (gC (.int 1)) (aCons (gC (.int 1)) (aCons (gC (.int 1)) (aCons (gC (.int 2)) aNil)))))) aNil)))) aNil)) (.nm 4) (sSeq (sSet 5 (gCB mMin2 (aCons (gVar 2) (aCons (gCall m__law_taken (aCons (gVar 0) (aCons (gC (.int 5)) aNil))) aNil)))) (sSeq (sSet 3 (gOp mAdd (gVar 3) (gTupD (aCons (gCB mTuple (aCons (gComp [6] (gRange1 (aCons (gVar 5) aNil)) (.nm 6) gYes (gCall m__law_instruction (aCons (gVar 0) aNil))) aNil)) aNil)))) (sSet 2 (gOp mSub (gVar 2) (gVar 5)))))) (sRet (gVar 3))))
def m__law_program : List D → Sto → Out D := gFun 7 g__law_program
def g_check_text : G Fl :=
  (sIf (gTNot (gTr (gCB mIsi (aCons (gVar 0) (aCons (gC (.raw (.ty "str"))) aNil))))) sBad sNext)
def m_check_text : List D → Sto → Out D := gFun 1 g_check_text
def g_is_design : G Fl :=
  (sRet (gAnd (gCB mIsi (aCons (gVar 0) (aCons (gC (.raw (.ty "tuple"))) aNil))) (gOp mEq (gVar 0) (gCB mTuple (aCons (gComp [1] (gSeq (gC c_WORDS)) (.nm 1) (gBl (gOp (mIn false) (gVar 1) (gVar 0))) (gVar 1)) aNil)))))
def m_is_design : List D → Sto → Out D := gFun 2 g_is_design
def g_read_design : G Fl :=
  (sSeq (sDrop (gCall m_check_text (aCons (gVar 0) aNil))) (sSeq (sSet 1 (gIf (gBl (gOp mEq (gVar 0) (gC (.str "-")))) (gTupD aNil) (gCB mTuple (aCons (gM1 mSplit (gVar 0) (gC (.str " "))) aNil)))) (sSeq (sIf (gTNot (gTr (gCall m_is_design (aCons (gVar 1) aNil)))) sBad sNext) (sRet (gVar 1)))))
def m_read_design : List D → Sto → Out D := gFun 2 g_read_design
def g_is_number : G Fl :=
  (sRet (gAnd (gCB mIsi (aCons (gVar 0) (aCons (gC (.raw (.ty "int"))) aNil))) (gAnd (gNot (gCB mIsi (aCons (gVar 0) (aCons (gC (.raw (.ty "bool"))) aNil)))) (gB (gChain mLe mLe (gC (.int 0)) (gVar 0) (gVar 1))))))
def m_is_number : List D → Sto → Out D := gFun 2 g_is_number
def g_is_instruction : G Fl :=
  (sSeq (sIf (gTOr (gTNot (gTr (gCB mIsi (aCons (gVar 0) (aCons (gC (.raw (.ty "tuple"))) aNil))))) (gTOr (gBl (gOp mEq (gCB mLen (aCons (gVar 0) aNil)) (gC (.int 0)))) (gTNot (gTr (gCB mIsi (aCons (gOp mIx (gVar 0) (gC (.int 0))) (aCons (gC (.raw (.ty "str"))) aNil))))))) (sRet (gC (.bl false))) sNext) (sSeq (sSet 1 (gKGet t_GREATEST (gOp mIx (gVar 0) (gC (.int 0))))) (sSeq (sIf (gTOr (gBl (gOp mIs (gVar 1) (gC .non))) (gBl (gOp mNe (gCB mLen (aCons (gVar 0) aNil)) (gOp mAdd (gC (.int 1)) (gCB mLen (aCons (gVar 1) aNil)))))) (sRet (gC (.bl false))) sNext) (sRet (gCB mAll (aCons (gComp [2, 3] (gZip (aCons (gOp3 (gVar 0) (gSome (gC (.int 1))) gNone) (aCons (gVar 1) aNil))) (.tp [(.nm 2), (.nm 3)]) gYes (gCall m_is_number (aCons (gVar 2) (aCons (gVar 3) aNil)))) aNil))))))
def m_is_instruction : List D → Sto → Out D := gFun 4 g_is_instruction
def g_is_core : G Fl :=
  (sSeq (sIf (gTOr (gTNot (gTr (gCB mIsi (aCons (gVar 0) (aCons (gC (.raw (.ty "tuple"))) aNil))))) (gBl (gOp mGt (gCB mLen (aCons (gVar 0) aNil)) (gC (.int 5))))) (sRet (gC (.bl false))) sNext) (sRet (gCB mAll (aCons (gComp [1] (gSeq (gVar 0)) (.nm 1) gYes (gCall m_is_instruction (aCons (gVar 1) aNil))) aNil))))
def m_is_core : List D → Sto → Out D := gFun 2 g_is_core
def g_is_numeral : G Fl :=
  (sSeq (sIf (gTOr (gTNot (gTr (gM0 mIsascii (gVar 0)))) (gTNot (gTr (gM0 mIsdigit (gVar 0))))) (sRet (gC (.bl false))) sNext) (sRet (gOr (gOp mEq (gVar 0) (gC (.str "0"))) (gNot (gM1 mStartswith (gVar 0) (gC (.str "0")))))))
def m_is_numeral : List D → Sto → Out D := gFun 1 g_is_numeral
def g_read_number : G Fl :=
  (sSeq (sIf (gTAnd (gBl (gOp mEq (gCB mLen (aCons (gVar 0) aNil)) (gC (.int 1)))) (gTr (gCall m_is_numeral (aCons (gVar 0) aNil)))) (sRet (gCB mIntT (aCons (gVar 0) aNil))) sNext) (sRet (gC .non)))
def m_read_number : List D → Sto → Out D := gFun 1 g_read_number
def g_read_items : G Fl :=
  (sSeq (sSet 1 (gM1 mSplit (gVar 0) (gC (.str " ")))) (sRet (gCB mTuple (aCons (gOp mAdd (gOp3 (gVar 1) gNone (gSome (gC (.int 1)))) (gComp [2] (gSeq (gOp3 (gVar 1) (gSome (gC (.int 1))) gNone)) (.nm 2) gYes (gCall m_read_number (aCons (gVar 2) aNil)))) aNil))))
def m_read_items : List D → Sto → Out D := gFun 3 g_read_items
def g_read_core : G Fl :=
  (sSeq (sIf (gBl (gOp mEq (gVar 0) (gC (.str "-")))) (sRet (gTupD aNil)) sNext) (sSeq (sSet 1 (gCB mTuple (aCons (gComp [2] (gSeq (gM1 mSplit (gVar 0) (gC (.str "; ")))) (.nm 2) gYes (gCall m_read_items (aCons (gVar 2) aNil))) aNil))) (sRet (gIf (gTr (gCall m_is_core (aCons (gVar 1) aNil))) (gVar 1) (gC .non)))))
def m_read_core : List D → Sto → Out D := gFun 3 g_read_core
def g_read_program : G Fl :=
  (sSeq (sDrop (gCall m_check_text (aCons (gVar 0) aNil))) (sSeq (sSet 1 (gTupD aNil)) (sSeq (sSet 2 (gC (.int 10))) (sSeq (sFor (gEnum (aCons (gM1 mSplit (gVar 0) (gC (.str "\n"))) aNil)) (.tp [(.nm 3), (.nm 4)]) (sSeq (sSet 5 (gCall m_read_core (aCons (gVar 4) aNil))) (sSeq (sIf (gTOr (gBl (gOp mIs (gVar 5) (gC .non))) (gTOr (gBl (gOp mGt (gCB mLen (aCons (gVar 5) aNil)) (gVar 2))) (gBl (gOp mEq (gVar 3) (gC (.int 3)))))) sBad sNext) (sSeq (sSet 1 (gOp mAdd (gVar 1) (gTupD (aCons (gVar 5) aNil)))) (sAug mISub 2 (gCB mLen (aCons (gVar 5) aNil))))))) (sRet (gVar 1))))))
def m_read_program : List D → Sto → Out D := gFun 6 g_read_program
def g_check_design : G Fl :=
  (sIf (gTNot (gTr (gCall m_is_design (aCons (gVar 0) aNil)))) sBad sNext)
def m_check_design : List D → Sto → Out D := gFun 1 g_check_design
def g_write_design : G Fl :=
  (sSeq (sDrop (gCall m_check_design (aCons (gVar 0) aNil))) (sSeq (sIf (gBl (gOp mEq (gVar 0) (gTupD aNil))) (sRet (gC (.str "-"))) sNext) (sRet (gM1 mJoin (gC (.str " ")) (gVar 0)))))
def m_write_design : List D → Sto → Out D := gFun 1 g_write_design
def g_check_program : G Fl :=
  (sSeq (sIf (gTOr (gTNot (gTr (gCB mIsi (aCons (gVar 0) (aCons (gC (.raw (.ty "tuple"))) aNil))))) (gTNot (gChain mLe mLe (gC (.int 1)) (gCB mLen (aCons (gVar 0) aNil)) (gC (.int 3))))) sBad sNext) (sSeq (sSet 1 (gC (.int 0))) (sFor (gEnum (aCons (gVar 0) aNil)) (.tp [(.nm 2), (.nm 3)]) (sSeq (sIf (gTOr (gTNot (gTr (gCall m_is_core (aCons (gVar 3) aNil)))) (gBl (gOp mGt (gOp mAdd (gVar 1) (gCB mLen (aCons (gVar 3) aNil))) (gC (.int 10))))) sBad sNext) (sAug mIAdd 1 (gCB mLen (aCons (gVar 3) aNil)))))))
def m_check_program : List D → Sto → Out D := gFun 4 g_check_program
def g_write_core : G Fl :=
  (sSeq (sIf (gBl (gOp mEq (gVar 0) (gTupD aNil))) (sRet (gC (.str "-"))) sNext) (sRet (gM1 mJoin (gC (.str "; ")) (gComp [1] (gSeq (gVar 0)) (.nm 1) gYes (gM1 mJoin (gC (.str " ")) (gComp [2] (gSeq (gVar 1)) (.nm 2) gYes (gCB mStr (aCons (gVar 2) aNil))))))))
def m_write_core : List D → Sto → Out D := gFun 3 g_write_core
def g_write_program : G Fl :=
  (sSeq (sDrop (gCall m_check_program (aCons (gVar 0) aNil))) (sRet (gM1 mJoin (gC (.str "\n")) (gComp [1] (gSeq (gVar 0)) (.nm 1) gYes (gCall m_write_core (aCons (gVar 1) aNil))))))
def m_write_program : List D → Sto → Out D := gFun 2 g_write_program
def g_law : G Fl :=
  (sSeq (sSet 1 (gLstM (aCons (gVar 0) (aCons (gC (.int 0)) (aCons (gC (.int 14250)) (aCons (gC (.int 0)) aNil)))))) (sSeq (sPar3 2 3 4 (aCons (gCall m__law_program (aCons (gVar 1) (aCons (gC (.int 10)) aNil))) (aCons (gCall m__law_design (aCons (gVar 1) aNil)) (aCons (gLstM aNil) aNil)))) (sSeq (sFor (gSeq (gVar 2)) (.nm 5) (sSeq (sSet 6 (gM1 mJoin (gC (.str "; ")) (gComp [8] (gSeq (gVar 5)) (.nm 8) gYes (gM1 mJoin (gC (.str " ")) (gComp [9] (gSeq (gVar 8)) (.nm 9) gYes (gCB mStr (aCons (gVar 9) aNil))))))) (sDrop (gAppend (gVar 4) (gIf (gBl (gOp mNe (gVar 6) (gC (.str "")))) (gVar 6) (gC (.str "-"))))))) (sSeq (sSet 7 (gM1 mJoin (gC (.str "\n")) (gVar 4))) (sSeq (sIf (gTOr (gTNot (gTr (gCall (m__law_alike 5) (aCons (gCall m_write_program (aCons (gVar 2) aNil)) (aCons (gVar 7) aNil))))) (gTNot (gTr (gCall (m__law_alike 5) (aCons (gCall m_read_program (aCons (gVar 7) aNil)) (aCons (gVar 2) aNil)))))) (sRet (gC (.bl false))) sNext) (sSeq (sSet 6 (gIf (gBl (gOp mNe (gVar 3) (gTupD aNil))) (gM1 mJoin (gC (.str " ")) (gVar 3)) (gC (.str "-")))) (sRet (gAnd (gCall (m__law_alike 5) (aCons (gCall m_write_design (aCons (gVar 3) aNil)) (aCons (gVar 6) aNil))) (gCall (m__law_alike 5) (aCons (gCall m_read_design (aCons (gVar 6) aNil)) (aCons (gVar 3) aNil)))))))))))
def m_law : List D → Sto → Out D := gFun 10 g_law
structure Txt (K : PySem.W.Frag) (w : World) (mg : Str → Option Value) where
  a__law_alike : Addr
  d__law_alike : FuncData
  F__law_alike : Fun K "_law_alike" "_law_alike" s__law_alike a__law_alike d__law_alike
  b__law_alike : Binds K d__law_alike ["found", "due"] []
  g__law_alike : mg "_law_alike" = some (.ref a__law_alike)
  a__law_taken : Addr
  d__law_taken : FuncData
  F__law_taken : Fun K "_law_taken" "_law_taken" s__law_taken a__law_taken d__law_taken
  b__law_taken : Binds K d__law_taken ["row", "many"] []
  g__law_taken : mg "_law_taken" = some (.ref a__law_taken)
  a__law_design : Addr
  d__law_design : FuncData
  F__law_design : Fun K "_law_design" "_law_design" s__law_design a__law_design d__law_design
  b__law_design : Binds K d__law_design ["row"] []
  g__law_design : mg "_law_design" = some (.ref a__law_design)
  a__law_pick : Addr
  d__law_pick : FuncData
  F__law_pick : Fun K "_law_pick" "_law_pick" s__law_pick a__law_pick d__law_pick
  b__law_pick : Binds K d__law_pick ["row", "kinds"] []
  g__law_pick : mg "_law_pick" = some (.ref a__law_pick)
  a__law_instruction : Addr
  d__law_instruction : FuncData
  F__law_instruction : Fun K "_law_instruction" "_law_instruction" s__law_instruction a__law_instruction d__law_instruction
  b__law_instruction : Binds K d__law_instruction ["row"] []
  g__law_instruction : mg "_law_instruction" = some (.ref a__law_instruction)
  a__law_program : Addr
  d__law_program : FuncData
  F__law_program : Fun K "_law_program" "_law_program" s__law_program a__law_program d__law_program
  b__law_program : Binds K d__law_program ["row", "most"] []
  g__law_program : mg "_law_program" = some (.ref a__law_program)
  a_check_text : Addr
  d_check_text : FuncData
  F_check_text : Fun K "check_text" "check_text" s_check_text a_check_text d_check_text
  b_check_text : Binds K d_check_text ["value"] []
  g_check_text : mg "check_text" = some (.ref a_check_text)
  a_is_design : Addr
  d_is_design : FuncData
  F_is_design : Fun K "is_design" "is_design" s_is_design a_is_design d_is_design
  b_is_design : Binds K d_is_design ["value"] []
  g_is_design : mg "is_design" = some (.ref a_is_design)
  a_read_design : Addr
  d_read_design : FuncData
  F_read_design : Fun K "read_design" "read_design" s_read_design a_read_design d_read_design
  b_read_design : Binds K d_read_design ["text"] []
  g_read_design : mg "read_design" = some (.ref a_read_design)
  a_is_number : Addr
  d_is_number : FuncData
  F_is_number : Fun K "is_number" "is_number" s_is_number a_is_number d_is_number
  b_is_number : Binds K d_is_number ["value", "greatest"] []
  g_is_number : mg "is_number" = some (.ref a_is_number)
  a_is_instruction : Addr
  d_is_instruction : FuncData
  F_is_instruction : Fun K "is_instruction" "is_instruction" s_is_instruction a_is_instruction d_is_instruction
  b_is_instruction : Binds K d_is_instruction ["value"] []
  g_is_instruction : mg "is_instruction" = some (.ref a_is_instruction)
  a_is_core : Addr
  d_is_core : FuncData
  F_is_core : Fun K "is_core" "is_core" s_is_core a_is_core d_is_core
  b_is_core : Binds K d_is_core ["value"] []
  g_is_core : mg "is_core" = some (.ref a_is_core)
  a_is_numeral : Addr
  d_is_numeral : FuncData
  F_is_numeral : Fun K "is_numeral" "is_numeral" s_is_numeral a_is_numeral d_is_numeral
  b_is_numeral : Binds K d_is_numeral ["word"] []
  g_is_numeral : mg "is_numeral" = some (.ref a_is_numeral)
  a_read_number : Addr
  d_read_number : FuncData
  F_read_number : Fun K "read_number" "read_number" s_read_number a_read_number d_read_number
  b_read_number : Binds K d_read_number ["word"] []
  g_read_number : mg "read_number" = some (.ref a_read_number)
  a_read_items : Addr
  d_read_items : FuncData
  F_read_items : Fun K "read_items" "read_items" s_read_items a_read_items d_read_items
  b_read_items : Binds K d_read_items ["part"] []
  g_read_items : mg "read_items" = some (.ref a_read_items)
  a_read_core : Addr
  d_read_core : FuncData
  F_read_core : Fun K "read_core" "read_core" s_read_core a_read_core d_read_core
  b_read_core : Binds K d_read_core ["line"] []
  g_read_core : mg "read_core" = some (.ref a_read_core)
  a_read_program : Addr
  d_read_program : FuncData
  F_read_program : Fun K "read_program" "read_program" s_read_program a_read_program d_read_program
  b_read_program : Binds K d_read_program ["text"] []
  g_read_program : mg "read_program" = some (.ref a_read_program)
  a_check_design : Addr
  d_check_design : FuncData
  F_check_design : Fun K "check_design" "check_design" s_check_design a_check_design d_check_design
  b_check_design : Binds K d_check_design ["value"] []
  g_check_design : mg "check_design" = some (.ref a_check_design)
  a_write_design : Addr
  d_write_design : FuncData
  F_write_design : Fun K "write_design" "write_design" s_write_design a_write_design d_write_design
  b_write_design : Binds K d_write_design ["design"] []
  g_write_design : mg "write_design" = some (.ref a_write_design)
  a_check_program : Addr
  d_check_program : FuncData
  F_check_program : Fun K "check_program" "check_program" s_check_program a_check_program d_check_program
  b_check_program : Binds K d_check_program ["value"] []
  g_check_program : mg "check_program" = some (.ref a_check_program)
  a_write_core : Addr
  d_write_core : FuncData
  F_write_core : Fun K "write_core" "write_core" s_write_core a_write_core d_write_core
  b_write_core : Binds K d_write_core ["core"] []
  g_write_core : mg "write_core" = some (.ref a_write_core)
  a_write_program : Addr
  d_write_program : FuncData
  F_write_program : Fun K "write_program" "write_program" s_write_program a_write_program d_write_program
  b_write_program : Binds K d_write_program ["program"] []
  g_write_program : mg "write_program" = some (.ref a_write_program)
  a_law : Addr
  d_law : FuncData
  F_law : Fun K "law" "law" s_law a_law d_law
  b_law : Binds K d_law ["script"] []
  g_law : mg "law" = some (.ref a_law)
  n_all : mg "all" = none
  n_bool : mg "bool" = none
  n_enumerate : mg "enumerate" = none
  n_int : mg "int" = none
  n_isinstance : mg "isinstance" = none
  n_len : mg "len" = none
  n_list : mg "list" = none
  n_min : mg "min" = none
  n_range : mg "range" = none
  n_str : mg "str" = none
  n_tuple : mg "tuple" = none
  n_zip : mg "zip" = none
  a_GREATEST : Addr
  e_GREATEST : Array DictEntry
  z_GREATEST : Nat
  c_GREATEST : mg "GREATEST" = some (.ref a_GREATEST)
  k_GREATEST : KDict K w a_GREATEST e_GREATEST z_GREATEST
  t_GREATEST : KTab K a_GREATEST t_GREATEST
  a_WORDS : Addr
  c_WORDS : mg "WORDS" = some (.ref a_WORDS) ∧ ∀ β H, Rep K β H (.ref a_WORDS) c_WORDS
  u_MOST_CORES : Value
  c_MOST_CORES : mg "MOST_CORES" = some u_MOST_CORES ∧ RelV (.int 3) u_MOST_CORES
  u_MOST_IN_CORE : Value
  c_MOST_IN_CORE : mg "MOST_IN_CORE" = some u_MOST_IN_CORE ∧ RelV (.int 5) u_MOST_IN_CORE
  u_MOST_IN_ALL : Value
  c_MOST_IN_ALL : mg "MOST_IN_ALL" = some u_MOST_IN_ALL ∧ RelV (.int 10) u_MOST_IN_ALL
  u_NONE_THERE : Value
  c_NONE_THERE : mg "NONE_THERE" = some u_NONE_THERE ∧ RelV (.str "-") u_NONE_THERE
section
variable {P : Program} {w : World} {K : PySem.W.Frag} {mg : Str → Option Value} {base : Heap} (T : Txt K w mg)
theorem ok__law_alike {P : Program} {w : World} {K : PySem.W.Frag} {mg : Str → Option Value} {base : Heap} (T : Txt K w mg) (n : Nat) : FnD P w K mg base (1 + n) T.a__law_alike T.d__law_alike ["found", "due"] (m__law_alike n) := by
  induction n with
  | zero => exact fnD_of T.F__law_alike sc__law_alike fun cdv A outer s H E hr => dss_bad
  | succ n ih => exact fnD_of T.F__law_alike sc__law_alike fun cdv A outer s H E hr => (dss_cons (ds_if (dt_tr (de_callB call_isiS cd_isiT (by rfl) T.n_isinstance (by decide +kernel) (da_cons (de_var 1) (da_cons (de_tup (da_cons (de_type (by rfl) T.n_tuple (by decide +kernel)) (da_cons (de_type (by rfl) T.n_list (by decide +kernel)) da_nil))) da_nil)))) (dss_cons (ds_if (dt_w (dw_or (dt_not (dt_tr (de_callB call_isiS cd_isiT (by rfl) T.n_isinstance (by decide +kernel) (da_cons (de_var 0) (da_cons (de_tup (da_cons (de_type (by rfl) T.n_tuple (by decide +kernel)) (da_cons (de_type (by rfl) T.n_list (by decide +kernel)) da_nil))) da_nil))))) (dw_or1 (dt_cmp (op_neD (hu64 hr)) od_ne (de_callB call_isi cd_isi (by rfl) T.n_isinstance (by decide +kernel) (da_cons (de_var 0) (da_cons (de_type (by rfl) T.n_list (by decide +kernel)) da_nil))) (de_callB call_isi cd_isi (by rfl) T.n_isinstance (by decide +kernel) (da_cons (de_var 1) (da_cons (de_type (by rfl) T.n_list (by decide +kernel)) da_nil))))))) (dss_one (ds_ret de_bl)) dss_nil) (dss_cons (ds_if (dt_cmp (op_neD (hu64 hr)) od_ne (de_callB call_len cd_len (by rfl) T.n_len (by decide +kernel) (da_cons (de_var 0) da_nil)) (de_callB call_len cd_len (by rfl) T.n_len (by decide +kernel) (da_cons (de_var 1) da_nil))) (dss_one (ds_ret de_bl)) dss_nil) (dss_one (ds_ret (de_cmp (op_eqD (hu64 hr)) od_eq (de_comp (own := [("k", 2)]) (p := (.nm 2)) rfl sc__law_alike.nd (di_range1 (by rfl) T.n_range (da_cons (de_callB call_len cd_len (by rfl) T.n_len (by decide +kernel) (da_cons (de_var 1) da_nil)) da_nil)) (blkOk_by (N := N__law_alike) (sc := (defScope s__law_alike)) (by decide +kernel)) (by decide) (fun _ _ _ _ _ => (dg_nm (i := 2) sc__law_alike.nd rfl (by first | exact Or.inl rfl | exact Or.inr rfl))) (fun _ _ _ _ _ => (dts_one (dt_not (dt_tr (de_call ih takesF (hr.mono (Nat.le_refl _)) (by rfl) T.g__law_alike T.F__law_alike.kp T.b__law_alike rfl (da_cons (de_ix ix_seq od_ix (de_var 0) (de_var 2)) (da_cons (de_ix ix_seq od_ix (de_var 1) (de_var 2)) da_nil)) (hfl := (al_cons (al_cons al_nil)))))))) (fun _ _ _ _ _ => (de_var 2))) (de_lst da_nil)))))) dss_nil) (dss_cons (ds_if (dt_w (dw_or (dt_cmp or_is od_is (de_var 1) de_non) (dw_or1 (dt_tr (de_callB call_isi cd_isi (by rfl) T.n_isinstance (by decide +kernel) (da_cons (de_var 1) (da_cons (de_type (by rfl) T.n_str (by decide +kernel)) da_nil))))))) (dss_one (ds_ret (de_and (de_cmp (op_eqD (hu64 hr)) od_eq (de_var 0) (de_var 1)) (de_one (de_cmp (op_eqD (hu64 hr)) od_eq (de_callB call_isi cd_isi (by rfl) T.n_isinstance (by decide +kernel) (da_cons (de_var 0) (da_cons (de_type (by rfl) T.n_str (by decide +kernel)) da_nil))) (de_callB call_isi cd_isi (by rfl) T.n_isinstance (by decide +kernel) (da_cons (de_var 1) (da_cons (de_type (by rfl) T.n_str (by decide +kernel)) da_nil)))))))) dss_nil) (dss_one (ds_ret (de_and (de_callB call_isi cd_isi (by rfl) T.n_isinstance (by decide +kernel) (da_cons (de_var 0) (da_cons (de_type (by rfl) T.n_int (by decide +kernel)) da_nil))) (de_and (de_cmp (op_eqD (hu64 hr)) od_eq (de_callB call_isi cd_isi (by rfl) T.n_isinstance (by decide +kernel) (da_cons (de_var 0) (da_cons (de_type (by rfl) T.n_bool (by decide +kernel)) da_nil))) (de_callB call_isi cd_isi (by rfl) T.n_isinstance (by decide +kernel) (da_cons (de_var 1) (da_cons (de_type (by rfl) T.n_bool (by decide +kernel)) da_nil)))) (de_one (de_cmp (op_eqD (hu64 hr)) od_eq (de_var 0) (de_var 1)))))))))
theorem ok__law_taken {P : Program} {w : World} {K : PySem.W.Frag} {mg : Str → Option Value} {base : Heap} (T : Txt K w mg) : FnD P w K mg base 1 T.a__law_taken T.d__law_taken ["row", "many"] m__law_taken :=
  fnD_of T.F__law_taken sc__law_taken fun cdv A outer s H E hr => (dss_cons (ds_if (dt_cmp op_gt od_gt (de_ix ix_seq od_ix (de_var 0) de_int) de_int) (dss_cons (ds_set 2 sc__law_taken.nd rfl (by first | exact Or.inl rfl | exact Or.inr rfl) (de_op op_mod od_mod (de_callTy call_int1 cd_int (by rfl) T.n_int (by decide +kernel) (da_cons (de_ix ix_seq od_ix (de_var 0) de_int) da_nil)) (de_var 1))) (dss_cons (ds_put (de_var 0) de_int (de_op op_fdiv od_fdiv (de_ix ix_seq od_ix (de_var 0) de_int) (de_var 1))) (dss_one (ds_ret (de_var 2))))) dss_nil) (dss_cons (ds_put (de_var 0) de_int (de_op or_add od_add (de_ix ix_seq od_ix (de_var 0) de_int) de_int)) (dss_cons (ds_if (dt_cmp op_gt od_gt (de_ix ix_seq od_ix (de_var 0) de_int) (de_callB call_len cd_len (by rfl) T.n_len (by decide +kernel) (da_cons (de_ix ix_seq od_ix (de_var 0) de_int) da_nil))) (dss_cons (ds_put (de_var 0) de_int (de_op op_mod od_mod (de_callTy call_int1 cd_int (by rfl) T.n_int (by decide +kernel) (da_cons (de_op or_add od_add (de_op or_mul od_mul (de_ix ix_seq od_ix (de_var 0) de_int) de_int) de_int) da_nil)) de_int)) (dss_one (ds_ret (de_op op_mod od_mod (de_callTy call_int1 cd_int (by rfl) T.n_int (by decide +kernel) (da_cons (de_op op_fdiv od_fdiv (de_ix ix_seq od_ix (de_var 0) de_int) de_int) da_nil)) (de_var 1))))) dss_nil) (dss_cons (ds_set 3 sc__law_taken.nd rfl (by first | exact Or.inl rfl | exact Or.inr rfl) (de_ix ix_seq od_ix (de_ix ix_seq od_ix (de_var 0) de_int) (de_op op_sub od_sub (de_ix ix_seq od_ix (de_var 0) de_int) de_int))) (dss_cons (ds_put (de_var 0) de_int (de_op op_mod od_mod (de_callTy call_int1 cd_int (by rfl) T.n_int (by decide +kernel) (da_cons (de_op or_add od_add (de_op or_add od_add (de_op or_mul od_mul (de_ix ix_seq od_ix (de_var 0) de_int) de_int) (de_var 3)) de_int) da_nil)) de_int)) (dss_cons (ds_if (dt_cmp op_ge od_ge (de_var 3) (de_op op_pow od_pow de_int de_int)) (dss_one (ds_put (de_var 0) de_int (de_op op_fdiv od_fdiv (de_var 3) (de_var 1)))) dss_nil) (dss_one (ds_ret (de_op op_mod od_mod (de_callTy call_int1 cd_int (by rfl) T.n_int (by decide +kernel) (da_cons (de_var 3) da_nil)) (de_var 1))))))))))
theorem ok__law_design {P : Program} {w : World} {K : PySem.W.Frag} {mg : Str → Option Value} {base : Heap} (T : Txt K w mg) : FnD P w K mg base 2 T.a__law_design T.d__law_design ["row"] m__law_design :=
  fnD_of T.F__law_design sc__law_design fun cdv A outer s H E hr => (dss_one (ds_ret (de_callTy call_tuple_of cd_tuple (by rfl) T.n_tuple (by decide +kernel) (da_cons (de_comp (own := [("word", 1)]) (p := (.nm 1)) rfl sc__law_design.nd (di_seq (de_lst (da_cons de_str (da_cons de_str (da_cons de_str (da_cons de_str (da_cons de_str (da_cons de_str (da_cons de_str (da_cons de_str da_nil)))))))))) (blkOk_by (N := N__law_design) (sc := (defScope s__law_design)) (by decide +kernel)) (by decide) (fun _ _ _ _ _ => (dg_nm (i := 1) sc__law_design.nd rfl (by first | exact Or.inl rfl | exact Or.inr rfl))) (fun _ _ _ _ _ => (dts_one (dt_cmp (op_eqD (hu64 hr)) od_eq (de_call (ok__law_taken T) takesF (hr.mono (by decide)) (by rfl) T.g__law_taken T.F__law_taken.kp T.b__law_taken rfl (da_cons (de_var 0) (da_cons de_int da_nil)) (hfl := (al_cons (al_cons al_nil)))) de_int))) (fun _ _ _ _ _ => (de_var 1))) da_nil))))
theorem ok__law_pick {P : Program} {w : World} {K : PySem.W.Frag} {mg : Str → Option Value} {base : Heap} (T : Txt K w mg) : FnD P w K mg base 2 T.a__law_pick T.d__law_pick ["row", "kinds"] m__law_pick :=
  fnD_of T.F__law_pick sc__law_pick fun cdv A outer s H E hr => (dss_one (ds_ret (de_ix ix_seq od_ix (de_var 1) (de_call (ok__law_taken T) (takes_of rfl rfl rfl rfl) (hr.mono (by decide)) (by rfl) T.g__law_taken T.F__law_taken.kp T.b__law_taken rfl (da_cons (de_var 0) (da_cons (de_callB call_len cd_len (by rfl) T.n_len (by decide +kernel) (da_cons (de_var 1) da_nil)) da_nil)) (hfl := (al_cons (al_cons al_nil)))))))
theorem ok__law_instruction {P : Program} {w : World} {K : PySem.W.Frag} {mg : Str → Option Value} {base : Heap} (T : Txt K w mg) : FnD P w K mg base 3 T.a__law_instruction T.d__law_instruction ["row"] m__law_instruction :=
  fnD_of T.F__law_instruction sc__law_instruction fun cdv A outer s H E hr => (dss_cons (ds_set 1 sc__law_instruction.nd rfl (by first | exact Or.inl rfl | exact Or.inr rfl) (de_call (ok__law_pick T) (takes_of rfl rfl rfl rfl) (hr.mono (by decide)) (by rfl) T.g__law_pick T.F__law_pick.kp T.b__law_pick rfl (da_cons (de_var 0) (da_cons (de_lst (da_cons de_str (da_cons de_str (da_cons de_str (da_cons de_str (da_cons de_str (da_cons de_str (da_cons de_str (da_cons de_str (da_cons de_str da_nil)))))))))) da_nil)) (hfl := (al_cons (al_cons al_nil))))) (dss_cons (ds_if (dt_cmp (op_eqD (hu64 hr)) od_eq (de_var 1) de_str) (dss_one (ds_ret (de_tup (da_cons de_str da_nil)))) dss_nil) (dss_cons (ds_if (dt_cmp (op_eqD (hu64 hr)) od_eq (de_var 1) de_str) (dss_one (ds_ret (de_tup (da_cons de_str (da_cons (de_call (ok__law_taken T) (takes_of rfl rfl rfl rfl) (hr.mono (by decide)) (by rfl) T.g__law_taken T.F__law_taken.kp T.b__law_taken rfl (da_cons (de_var 0) (da_cons de_int da_nil)) (hfl := (al_cons (al_cons al_nil)))) (da_cons (de_op or_add od_add de_int (de_call (ok__law_taken T) (takes_of rfl rfl rfl rfl) (hr.mono (by decide)) (by rfl) T.g__law_taken T.F__law_taken.kp T.b__law_taken rfl (da_cons (de_var 0) (da_cons de_int da_nil)) (hfl := (al_cons (al_cons al_nil))))) da_nil)))))) dss_nil) (dss_cons (ds_if (dt_cmp (op_eqD (hu64 hr)) od_eq (de_var 1) de_str) (dss_one (ds_ret (de_tup (da_cons de_str (da_cons (de_call (ok__law_taken T) (takes_of rfl rfl rfl rfl) (hr.mono (by decide)) (by rfl) T.g__law_taken T.F__law_taken.kp T.b__law_taken rfl (da_cons (de_var 0) (da_cons de_int da_nil)) (hfl := (al_cons (al_cons al_nil)))) (da_cons (de_call (ok__law_taken T) (takes_of rfl rfl rfl rfl) (hr.mono (by decide)) (by rfl) T.g__law_taken T.F__law_taken.kp T.b__law_taken rfl (da_cons (de_var 0) (da_cons de_int da_nil)) (hfl := (al_cons (al_cons al_nil)))) da_nil)))))) dss_nil) (dss_one (ds_ret (de_tup (da_cons (de_var 1) (da_cons (de_call (ok__law_taken T) (takes_of rfl rfl rfl rfl) (hr.mono (by decide)) (by rfl) T.g__law_taken T.F__law_taken.kp T.b__law_taken rfl (da_cons (de_var 0) (da_cons de_int da_nil)) (hfl := (al_cons (al_cons al_nil)))) (da_cons (de_call (ok__law_taken T) (takes_of rfl rfl rfl rfl) (hr.mono (by decide)) (by rfl) T.g__law_taken T.F__law_taken.kp T.b__law_taken rfl (da_cons (de_var 0) (da_cons de_int da_nil)) (hfl := (al_cons (al_cons al_nil)))) da_nil))))))))))
theorem ok__law_program {P : Program} {w : World} {K : PySem.W.Frag} {mg : Str → Option Value} {base : Heap} (T : Txt K w mg) : FnD P w K mg base 4 T.a__law_program T.d__law_program ["row", "most"] m__law_program :=
  fnD_of T.F__law_program sc__law_program fun cdv A outer s H E hr => (dss_cons (ds_par (i := 2) (j := 3) rfl sc__law_program.nd rfl rfl (by decide) rfl rfl (da_cons (de_var 1) (da_cons (de_tup da_nil) da_nil)) rfl) (dss_cons (ds_for (p := (.nm 4)) (passes_of rfl) rfl (di_range1 (by rfl) T.n_range (da_cons (de_op or_add od_add de_int (de_call (ok__law_pick T) (takes_of rfl rfl rfl rfl) (hr.mono (by decide)) (by rfl) T.g__law_pick T.F__law_pick.kp T.b__law_pick rfl (da_cons (de_var 0) (da_cons (de_lst (da_cons de_int (da_cons de_int (da_cons de_int (da_cons de_int (da_cons de_int da_nil)))))) da_nil)) (hfl := (al_cons (al_cons al_nil))))) da_nil)) (dg_nm (i := 4) sc__law_program.nd rfl (by first | exact Or.inl rfl | exact Or.inr rfl)) (dss_cons (ds_set 5 sc__law_program.nd rfl (by first | exact Or.inl rfl | exact Or.inr rfl) (de_callB (call_min2 rfl) cd_min2 (by rfl) T.n_min (by decide +kernel) (da_cons (de_var 2) (da_cons (de_call (ok__law_taken T) (takes_of rfl rfl rfl rfl) (hr.mono (by decide)) (by rfl) T.g__law_taken T.F__law_taken.kp T.b__law_taken rfl (da_cons (de_var 0) (da_cons de_int da_nil)) (hfl := (al_cons (al_cons al_nil)))) da_nil)))) (dss_cons (ds_set 3 sc__law_program.nd rfl (by first | exact Or.inl rfl | exact Or.inr rfl) (de_op or_add od_add (de_var 3) (de_tup (da_cons (de_callTy call_tuple_of cd_tuple (by rfl) T.n_tuple (by decide +kernel) (da_cons (de_comp (own := [("step", 6)]) (p := (.nm 6)) rfl sc__law_program.nd (di_range1 (by rfl) T.n_range (da_cons (de_var 5) da_nil)) (blkOk_by (N := N__law_program) (sc := (defScope s__law_program)) (by decide +kernel)) (by decide) (fun _ _ _ _ _ => (dg_nm (i := 6) sc__law_program.nd rfl (by first | exact Or.inl rfl | exact Or.inr rfl))) (fun _ _ _ _ _ => dts_nil) (fun _ _ _ _ _ => (de_call (ok__law_instruction T) takesF (hr.mono (by decide)) (by rfl) T.g__law_instruction T.F__law_instruction.kp T.b__law_instruction rfl (da_cons (de_var 0) da_nil) (hfl := (al_cons al_nil))))) da_nil)) da_nil)))) (dss_one (ds_set 2 sc__law_program.nd rfl (by first | exact Or.inl rfl | exact Or.inr rfl) (de_op op_sub od_sub (de_var 2) (de_var 5))))))) (dss_one (ds_ret (de_var 3)))))
theorem ok_check_text {P : Program} {w : World} {K : PySem.W.Frag} {mg : Str → Option Value} {base : Heap} (T : Txt K w mg) : FnD P w K mg base 1 T.a_check_text T.d_check_text ["value"] m_check_text :=
  fnD_of T.F_check_text sc_check_text fun cdv A outer s H E hr => (dss_one (ds_if (dt_not (dt_tr (de_callB call_isi cd_isi (by rfl) T.n_isinstance (by decide +kernel) (da_cons (de_var 0) (da_cons (de_type (by rfl) T.n_str (by decide +kernel)) da_nil))))) dss_bad dss_nil))
theorem ok_is_design {P : Program} {w : World} {K : PySem.W.Frag} {mg : Str → Option Value} {base : Heap} (T : Txt K w mg) : FnD P w K mg base 1 T.a_is_design T.d_is_design ["value"] m_is_design :=
  fnD_of T.F_is_design sc_is_design fun cdv A outer s H E hr => (dss_one (ds_ret (de_and (de_callB call_isi cd_isi (by rfl) T.n_isinstance (by decide +kernel) (da_cons (de_var 0) (da_cons (de_type (by rfl) T.n_tuple (by decide +kernel)) da_nil))) (de_one (de_cmp (op_eqD (hu64 hr)) od_eq (de_var 0) (de_callTy call_tuple_of cd_tuple (by rfl) T.n_tuple (by decide +kernel) (da_cons (de_comp (own := [("word", 1)]) (p := (.nm 1)) rfl sc_is_design.nd (di_seq (de_glob (v := .ref T.a_WORDS) (by rfl) T.c_WORDS.1 rfl T.c_WORDS.2)) (blkOk_by (N := N_is_design) (sc := (defScope s_is_design)) (by decide +kernel)) (by decide) (fun _ _ _ _ _ => (dg_nm (i := 1) sc_is_design.nd rfl (by first | exact Or.inl rfl | exact Or.inr rfl))) (fun _ _ _ _ _ => (dts_one (dt_cmp (or_in (hu65 hr)) (od_in false) (de_var 1) (de_var 0)))) (fun _ _ _ _ _ => (de_var 1))) da_nil)))))))
theorem ok_read_design {P : Program} {w : World} {K : PySem.W.Frag} {mg : Str → Option Value} {base : Heap} (T : Txt K w mg) : FnD P w K mg base 2 T.a_read_design T.d_read_design ["text"] m_read_design :=
  fnD_of T.F_read_design sc_read_design fun cdv A outer s H E hr => (dss_cons (ds_expr (de_call (ok_check_text T) (takes_of rfl rfl rfl rfl) (hr.mono (by decide)) (by rfl) T.g_check_text T.F_check_text.kp T.b_check_text rfl (da_cons (de_var 0) da_nil) (hfl := (al_cons al_nil)))) (dss_cons (ds_set 1 sc_read_design.nd rfl (by first | exact Or.inl rfl | exact Or.inr rfl) (de_if (dt_cmp (op_eqD (hu64 hr)) od_eq (de_var 0) (de_glob (v := .str "-") (by rfl) T.c_NONE_THERE.1 T.c_NONE_THERE.2 (fun _ _ => .str _))) (de_tup da_nil) (de_callTy call_tuple_of cd_tuple (by rfl) T.n_tuple (by decide +kernel) (da_cons (de_split (de_var 0) de_str) da_nil)))) (dss_cons (ds_if (dt_not (dt_tr (de_call (ok_is_design T) (takes_of rfl rfl rfl rfl) (hr.mono (by decide)) (by rfl) T.g_is_design T.F_is_design.kp T.b_is_design rfl (da_cons (de_var 1) da_nil) (hfl := (al_cons al_nil))))) dss_bad dss_nil) (dss_one (ds_ret (de_var 1))))))
theorem ok_is_number {P : Program} {w : World} {K : PySem.W.Frag} {mg : Str → Option Value} {base : Heap} (T : Txt K w mg) : FnD P w K mg base 1 T.a_is_number T.d_is_number ["value", "greatest"] m_is_number :=
  fnD_of T.F_is_number sc_is_number fun cdv A outer s H E hr => (dss_one (ds_ret (de_and (de_callB call_isi cd_isi (by rfl) T.n_isinstance (by decide +kernel) (da_cons (de_var 0) (da_cons (de_type (by rfl) T.n_int (by decide +kernel)) da_nil))) (de_and (de_not (de_callB call_isi cd_isi (by rfl) T.n_isinstance (by decide +kernel) (da_cons (de_var 0) (da_cons (de_type (by rfl) T.n_bool (by decide +kernel)) da_nil)))) (de_one (de_chain op_le op_le od_le od_le de_int (de_var 0) (de_var 1)))))))
theorem ok_is_instruction {P : Program} {w : World} {K : PySem.W.Frag} {mg : Str → Option Value} {base : Heap} (T : Txt K w mg) : FnD P w K mg base 2 T.a_is_instruction T.d_is_instruction ["value"] m_is_instruction :=
  fnD_of T.F_is_instruction sc_is_instruction fun cdv A outer s H E hr => (dss_cons (ds_if (dt_w (dw_or (dt_not (dt_tr (de_callB call_isi cd_isi (by rfl) T.n_isinstance (by decide +kernel) (da_cons (de_var 0) (da_cons (de_type (by rfl) T.n_tuple (by decide +kernel)) da_nil))))) (dw_or (dt_cmp (op_eqD (hu64 hr)) od_eq (de_callB call_len cd_len (by rfl) T.n_len (by decide +kernel) (da_cons (de_var 0) da_nil)) de_int) (dw_or1 (dt_not (dt_tr (de_callB call_isi cd_isi (by rfl) T.n_isinstance (by decide +kernel) (da_cons (de_ix ix_seq od_ix (de_var 0) de_int) (da_cons (de_type (by rfl) T.n_str (by decide +kernel)) da_nil))))))))) (dss_one (ds_ret de_bl)) dss_nil) (dss_cons (ds_set 1 sc_is_instruction.nd rfl (by first | exact Or.inl rfl | exact Or.inr rfl) (de_kget T.k_GREATEST T.t_GREATEST (pe_K (by rfl) T.c_GREATEST) (de_ix ix_seq od_ix (de_var 0) de_int) ⟨rfl, rfl, rfl, rfl⟩)) (dss_cons (ds_if (dt_w (dw_or (dt_cmp or_is od_is (de_var 1) de_non) (dw_or1 (dt_cmp (op_neD (hu64 hr)) od_ne (de_callB call_len cd_len (by rfl) T.n_len (by decide +kernel) (da_cons (de_var 0) da_nil)) (de_op or_add od_add de_int (de_callB call_len cd_len (by rfl) T.n_len (by decide +kernel) (da_cons (de_var 1) da_nil))))))) (dss_one (ds_ret de_bl)) dss_nil) (dss_one (ds_ret (de_callB (cr_all rfl) cd_all (by rfl) T.n_all (by decide +kernel) (da_cons (de_comp (own := [("number", 2), ("limit", 3)]) (p := (.tp [(.nm 2), (.nm 3)])) rfl sc_is_instruction.nd (di_zip (by rfl) T.n_zip (da_cons (de_sl (de_var 0) (do_some de_int) do_none) (da_cons (de_var 1) da_nil))) (blkOk_by (N := N_is_instruction) (sc := (defScope s_is_instruction)) (by decide +kernel)) (by decide) (fun _ _ _ _ _ => (dg_tp rfl (dgs_cons (dg_nm (i := 2) sc_is_instruction.nd rfl (by first | exact Or.inl rfl | exact Or.inr rfl)) (dgs_cons (dg_nm (i := 3) sc_is_instruction.nd rfl (by first | exact Or.inl rfl | exact Or.inr rfl)) dgs_nil)))) (fun _ _ _ _ _ => dts_nil) (fun _ _ _ _ _ => (de_call (ok_is_number T) takesF (hr.mono (by decide)) (by rfl) T.g_is_number T.F_is_number.kp T.b_is_number rfl (da_cons (de_var 2) (da_cons (de_var 3) da_nil)) (hfl := (al_cons (al_cons al_nil)))))) da_nil)))))))
theorem ok_is_core {P : Program} {w : World} {K : PySem.W.Frag} {mg : Str → Option Value} {base : Heap} (T : Txt K w mg) : FnD P w K mg base 3 T.a_is_core T.d_is_core ["value"] m_is_core :=
  fnD_of T.F_is_core sc_is_core fun cdv A outer s H E hr => (dss_cons (ds_if (dt_w (dw_or (dt_not (dt_tr (de_callB call_isi cd_isi (by rfl) T.n_isinstance (by decide +kernel) (da_cons (de_var 0) (da_cons (de_type (by rfl) T.n_tuple (by decide +kernel)) da_nil))))) (dw_or1 (dt_cmp op_gt od_gt (de_callB call_len cd_len (by rfl) T.n_len (by decide +kernel) (da_cons (de_var 0) da_nil)) (de_glob (v := .int 5) (by rfl) T.c_MOST_IN_CORE.1 T.c_MOST_IN_CORE.2 (fun _ _ => .int _)))))) (dss_one (ds_ret de_bl)) dss_nil) (dss_one (ds_ret (de_callB (cr_all rfl) cd_all (by rfl) T.n_all (by decide +kernel) (da_cons (de_comp (own := [("item", 1)]) (p := (.nm 1)) rfl sc_is_core.nd (di_seq (de_var 0)) (blkOk_by (N := N_is_core) (sc := (defScope s_is_core)) (by decide +kernel)) (by decide) (fun _ _ _ _ _ => (dg_nm (i := 1) sc_is_core.nd rfl (by first | exact Or.inl rfl | exact Or.inr rfl))) (fun _ _ _ _ _ => dts_nil) (fun _ _ _ _ _ => (de_call (ok_is_instruction T) takesF (hr.mono (by decide)) (by rfl) T.g_is_instruction T.F_is_instruction.kp T.b_is_instruction rfl (da_cons (de_var 1) da_nil) (hfl := (al_cons al_nil))))) da_nil)))))
theorem ok_is_numeral {P : Program} {w : World} {K : PySem.W.Frag} {mg : Str → Option Value} {base : Heap} (T : Txt K w mg) : FnD P w K mg base 1 T.a_is_numeral T.d_is_numeral ["word"] m_is_numeral :=
  fnD_of T.F_is_numeral sc_is_numeral fun cdv A outer s H E hr => (dss_cons (ds_if (dt_w (dw_or (dt_not (dt_tr (de_isascii (de_var 0)))) (dw_or1 (dt_not (dt_tr (de_isdigit (de_var 0))))))) (dss_one (ds_ret de_bl)) dss_nil) (dss_one (ds_ret (de_or (de_cmp (op_eqD (hu64 hr)) od_eq (de_var 0) de_str) (de_one (de_not (de_startswith (de_var 0) de_str)))))))
theorem ok_read_number {P : Program} {w : World} {K : PySem.W.Frag} {mg : Str → Option Value} {base : Heap} (T : Txt K w mg) : FnD P w K mg base 2 T.a_read_number T.d_read_number ["word"] m_read_number :=
  fnD_of T.F_read_number sc_read_number fun cdv A outer s H E hr => (dss_cons (ds_if (dt_w (dw_and (dt_cmp (op_eqD (hu64 hr)) od_eq (de_callB call_len cd_len (by rfl) T.n_len (by decide +kernel) (da_cons (de_var 0) da_nil)) de_int) (dw_and1 (dt_tr (de_call (ok_is_numeral T) (takes_of rfl rfl rfl rfl) (hr.mono (by decide)) (by rfl) T.g_is_numeral T.F_is_numeral.kp T.b_is_numeral rfl (da_cons (de_var 0) da_nil) (hfl := (al_cons al_nil))))))) (dss_one (ds_ret (de_callTy call_int_str cd_intT (by rfl) T.n_int (by decide +kernel) (da_cons (de_var 0) da_nil)))) dss_nil) (dss_one (ds_ret de_non)))
theorem ok_read_items {P : Program} {w : World} {K : PySem.W.Frag} {mg : Str → Option Value} {base : Heap} (T : Txt K w mg) : FnD P w K mg base 3 T.a_read_items T.d_read_items ["part"] m_read_items :=
  fnD_of T.F_read_items sc_read_items fun cdv A outer s H E hr => (dss_cons (ds_set 1 sc_read_items.nd rfl (by first | exact Or.inl rfl | exact Or.inr rfl) (de_split (de_var 0) de_str)) (dss_one (ds_ret (de_callTy call_tuple_of cd_tuple (by rfl) T.n_tuple (by decide +kernel) (da_cons (de_op or_add od_add (de_sl (de_var 1) do_none (do_some de_int)) (de_comp (own := [("word", 2)]) (p := (.nm 2)) rfl sc_read_items.nd (di_seq (de_sl (de_var 1) (do_some de_int) do_none)) (blkOk_by (N := N_read_items) (sc := (defScope s_read_items)) (by decide +kernel)) (by decide) (fun _ _ _ _ _ => (dg_nm (i := 2) sc_read_items.nd rfl (by first | exact Or.inl rfl | exact Or.inr rfl))) (fun _ _ _ _ _ => dts_nil) (fun _ _ _ _ _ => (de_call (ok_read_number T) takesF (hr.mono (by decide)) (by rfl) T.g_read_number T.F_read_number.kp T.b_read_number rfl (da_cons (de_var 2) da_nil) (hfl := (al_cons al_nil)))))) da_nil)))))
theorem ok_read_core {P : Program} {w : World} {K : PySem.W.Frag} {mg : Str → Option Value} {base : Heap} (T : Txt K w mg) : FnD P w K mg base 4 T.a_read_core T.d_read_core ["line"] m_read_core :=
  fnD_of T.F_read_core sc_read_core fun cdv A outer s H E hr => (dss_cons (ds_if (dt_cmp (op_eqD (hu64 hr)) od_eq (de_var 0) (de_glob (v := .str "-") (by rfl) T.c_NONE_THERE.1 T.c_NONE_THERE.2 (fun _ _ => .str _))) (dss_one (ds_ret (de_tup da_nil))) dss_nil) (dss_cons (ds_set 1 sc_read_core.nd rfl (by first | exact Or.inl rfl | exact Or.inr rfl) (de_callTy call_tuple_of cd_tuple (by rfl) T.n_tuple (by decide +kernel) (da_cons (de_comp (own := [("part", 2)]) (p := (.nm 2)) rfl sc_read_core.nd (di_seq (de_split (de_var 0) de_str)) (blkOk_by (N := N_read_core) (sc := (defScope s_read_core)) (by decide +kernel)) (by decide) (fun _ _ _ _ _ => (dg_nm (i := 2) sc_read_core.nd rfl (by first | exact Or.inl rfl | exact Or.inr rfl))) (fun _ _ _ _ _ => dts_nil) (fun _ _ _ _ _ => (de_call (ok_read_items T) takesF (hr.mono (by decide)) (by rfl) T.g_read_items T.F_read_items.kp T.b_read_items rfl (da_cons (de_var 2) da_nil) (hfl := (al_cons al_nil))))) da_nil))) (dss_one (ds_ret (de_if (dt_tr (de_call (ok_is_core T) (takes_of rfl rfl rfl rfl) (hr.mono (by decide)) (by rfl) T.g_is_core T.F_is_core.kp T.b_is_core rfl (da_cons (de_var 1) da_nil) (hfl := (al_cons al_nil)))) (de_var 1) de_non)))))
theorem ok_read_program {P : Program} {w : World} {K : PySem.W.Frag} {mg : Str → Option Value} {base : Heap} (T : Txt K w mg) : FnD P w K mg base 5 T.a_read_program T.d_read_program ["text"] m_read_program :=
  fnD_of T.F_read_program sc_read_program fun cdv A outer s H E hr => (dss_cons (ds_expr (de_call (ok_check_text T) (takes_of rfl rfl rfl rfl) (hr.mono (by decide)) (by rfl) T.g_check_text T.F_check_text.kp T.b_check_text rfl (da_cons (de_var 0) da_nil) (hfl := (al_cons al_nil)))) (dss_cons (ds_set 1 sc_read_program.nd rfl (by first | exact Or.inl rfl | exact Or.inr rfl) (de_tup da_nil)) (dss_cons (ds_set 2 sc_read_program.nd rfl (by first | exact Or.inl rfl | exact Or.inr rfl) (de_glob (v := .int 10) (by rfl) T.c_MOST_IN_ALL.1 T.c_MOST_IN_ALL.2 (fun _ _ => .int _))) (dss_cons (ds_for (p := (.tp [(.nm 3), (.nm 4)])) (passes_of rfl) rfl (di_enum (by rfl) T.n_enumerate (da_cons (de_split (de_var 0) de_str) da_nil)) (dg_tp rfl (dgs_cons (dg_nm (i := 3) sc_read_program.nd rfl (by first | exact Or.inl rfl | exact Or.inr rfl)) (dgs_cons (dg_nm (i := 4) sc_read_program.nd rfl (by first | exact Or.inl rfl | exact Or.inr rfl)) dgs_nil))) (dss_cons (ds_set 5 sc_read_program.nd rfl (by first | exact Or.inl rfl | exact Or.inr rfl) (de_call (ok_read_core T) (takes_of rfl rfl rfl rfl) (hr.mono (by decide)) (by rfl) T.g_read_core T.F_read_core.kp T.b_read_core rfl (da_cons (de_var 4) da_nil) (hfl := (al_cons al_nil)))) (dss_cons (ds_if (dt_w (dw_or (dt_cmp or_is od_is (de_var 5) de_non) (dw_or (dt_cmp op_gt od_gt (de_callB call_len cd_len (by rfl) T.n_len (by decide +kernel) (da_cons (de_var 5) da_nil)) (de_var 2)) (dw_or1 (dt_cmp (op_eqD (hu64 hr)) od_eq (de_var 3) (de_glob (v := .int 3) (by rfl) T.c_MOST_CORES.1 T.c_MOST_CORES.2 (fun _ _ => .int _))))))) dss_bad dss_nil) (dss_cons (ds_set 1 sc_read_program.nd rfl (by first | exact Or.inl rfl | exact Or.inr rfl) (de_op or_add od_add (de_var 1) (de_tup (da_cons (de_var 5) da_nil)))) (dss_one (ds_aug (i := 2) sc_read_program.nd rfl (by first | exact Or.inl rfl | exact Or.inr rfl) (de_callB call_len cd_len (by rfl) T.n_len (by decide +kernel) (da_cons (de_var 5) da_nil)) ip_sub od_isub)))))) (dss_one (ds_ret (de_var 1)))))))
theorem ok_check_design {P : Program} {w : World} {K : PySem.W.Frag} {mg : Str → Option Value} {base : Heap} (T : Txt K w mg) : FnD P w K mg base 2 T.a_check_design T.d_check_design ["value"] m_check_design :=
  fnD_of T.F_check_design sc_check_design fun cdv A outer s H E hr => (dss_one (ds_if (dt_not (dt_tr (de_call (ok_is_design T) (takes_of rfl rfl rfl rfl) (hr.mono (by decide)) (by rfl) T.g_is_design T.F_is_design.kp T.b_is_design rfl (da_cons (de_var 0) da_nil) (hfl := (al_cons al_nil))))) dss_bad dss_nil))
theorem ok_write_design {P : Program} {w : World} {K : PySem.W.Frag} {mg : Str → Option Value} {base : Heap} (T : Txt K w mg) : FnD P w K mg base 3 T.a_write_design T.d_write_design ["design"] m_write_design :=
  fnD_of T.F_write_design sc_write_design fun cdv A outer s H E hr => (dss_cons (ds_expr (de_call (ok_check_design T) (takes_of rfl rfl rfl rfl) (hr.mono (by decide)) (by rfl) T.g_check_design T.F_check_design.kp T.b_check_design rfl (da_cons (de_var 0) da_nil) (hfl := (al_cons al_nil)))) (dss_cons (ds_if (dt_cmp (op_eqD (hu64 hr)) od_eq (de_var 0) (de_tup da_nil)) (dss_one (ds_ret (de_glob (v := .str "-") (by rfl) T.c_NONE_THERE.1 T.c_NONE_THERE.2 (fun _ _ => .str _)))) dss_nil) (dss_one (ds_ret (de_join de_str (de_var 0))))))
theorem ok_check_program {P : Program} {w : World} {K : PySem.W.Frag} {mg : Str → Option Value} {base : Heap} (T : Txt K w mg) : FnD P w K mg base 4 T.a_check_program T.d_check_program ["value"] m_check_program :=
  fnD_of T.F_check_program sc_check_program fun cdv A outer s H E hr => (dss_cons (ds_if (dt_w (dw_or (dt_not (dt_tr (de_callB call_isi cd_isi (by rfl) T.n_isinstance (by decide +kernel) (da_cons (de_var 0) (da_cons (de_type (by rfl) T.n_tuple (by decide +kernel)) da_nil))))) (dw_or1 (dt_not (dt_chain op_le op_le od_le od_le de_int (de_callB call_len cd_len (by rfl) T.n_len (by decide +kernel) (da_cons (de_var 0) da_nil)) (de_glob (v := .int 3) (by rfl) T.c_MOST_CORES.1 T.c_MOST_CORES.2 (fun _ _ => .int _))))))) dss_bad dss_nil) (dss_cons (ds_set 1 sc_check_program.nd rfl (by first | exact Or.inl rfl | exact Or.inr rfl) de_int) (dss_one (ds_for (p := (.tp [(.nm 2), (.nm 3)])) (passes_of rfl) rfl (di_enum (by rfl) T.n_enumerate (da_cons (de_var 0) da_nil)) (dg_tp rfl (dgs_cons (dg_nm (i := 2) sc_check_program.nd rfl (by first | exact Or.inl rfl | exact Or.inr rfl)) (dgs_cons (dg_nm (i := 3) sc_check_program.nd rfl (by first | exact Or.inl rfl | exact Or.inr rfl)) dgs_nil))) (dss_cons (ds_if (dt_w (dw_or (dt_not (dt_tr (de_call (ok_is_core T) (takes_of rfl rfl rfl rfl) (hr.mono (by decide)) (by rfl) T.g_is_core T.F_is_core.kp T.b_is_core rfl (da_cons (de_var 3) da_nil) (hfl := (al_cons al_nil))))) (dw_or1 (dt_cmp op_gt od_gt (de_op or_add od_add (de_var 1) (de_callB call_len cd_len (by rfl) T.n_len (by decide +kernel) (da_cons (de_var 3) da_nil))) (de_glob (v := .int 10) (by rfl) T.c_MOST_IN_ALL.1 T.c_MOST_IN_ALL.2 (fun _ _ => .int _)))))) dss_bad dss_nil) (dss_one (ds_aug (i := 1) sc_check_program.nd rfl (by first | exact Or.inl rfl | exact Or.inr rfl) (de_callB call_len cd_len (by rfl) T.n_len (by decide +kernel) (da_cons (de_var 3) da_nil)) ip_add od_iadd)))))))
theorem ok_write_core {P : Program} {w : World} {K : PySem.W.Frag} {mg : Str → Option Value} {base : Heap} (T : Txt K w mg) : FnD P w K mg base 1 T.a_write_core T.d_write_core ["core"] m_write_core :=
  fnD_of T.F_write_core sc_write_core fun cdv A outer s H E hr => (dss_cons (ds_if (dt_cmp (op_eqD (hu64 hr)) od_eq (de_var 0) (de_tup da_nil)) (dss_one (ds_ret (de_glob (v := .str "-") (by rfl) T.c_NONE_THERE.1 T.c_NONE_THERE.2 (fun _ _ => .str _)))) dss_nil) (dss_one (ds_ret (de_join de_str (de_comp (own := [("instruction", 1)]) (p := (.nm 1)) rfl sc_write_core.nd (di_seq (de_var 0)) (blkOk_by (N := N_write_core) (sc := (defScope s_write_core)) (by decide +kernel)) (by decide) (fun _ _ _ _ _ => (dg_nm (i := 1) sc_write_core.nd rfl (by first | exact Or.inl rfl | exact Or.inr rfl))) (fun _ _ _ _ _ => dts_nil) (fun _ _ _ _ _ => (de_join de_str (de_comp (own := [("item", 2)]) (p := (.nm 2)) rfl sc_write_core.nd (di_seq (de_var 1)) (blkOk_by (by kernel_rfl)) (by decide) (fun _ _ _ _ _ => (dg_nm (i := 2) sc_write_core.nd rfl (by first | exact Or.inl rfl | exact Or.inr rfl))) (fun _ _ _ _ _ => dts_nil) (fun _ _ _ _ _ => (de_callTy call_str cd_str (by rfl) T.n_str (by decide +kernel) (da_cons (de_var 2) da_nil)))))))))))
theorem ok_write_program {P : Program} {w : World} {K : PySem.W.Frag} {mg : Str → Option Value} {base : Heap} (T : Txt K w mg) : FnD P w K mg base 5 T.a_write_program T.d_write_program ["program"] m_write_program :=
  fnD_of T.F_write_program sc_write_program fun cdv A outer s H E hr => (dss_cons (ds_expr (de_call (ok_check_program T) (takes_of rfl rfl rfl rfl) (hr.mono (by decide)) (by rfl) T.g_check_program T.F_check_program.kp T.b_check_program rfl (da_cons (de_var 0) da_nil) (hfl := (al_cons al_nil)))) (dss_one (ds_ret (de_join de_str (de_comp (own := [("core", 1)]) (p := (.nm 1)) rfl sc_write_program.nd (di_seq (de_var 0)) (blkOk_by (N := N_write_program) (sc := (defScope s_write_program)) (by decide +kernel)) (by decide) (fun _ _ _ _ _ => (dg_nm (i := 1) sc_write_program.nd rfl (by first | exact Or.inl rfl | exact Or.inr rfl))) (fun _ _ _ _ _ => dts_nil) (fun _ _ _ _ _ => (de_call (ok_write_core T) takesF (hr.mono (by decide)) (by rfl) T.g_write_core T.F_write_core.kp T.b_write_core rfl (da_cons (de_var 1) da_nil) (hfl := (al_cons al_nil)))))))))
theorem ok_law {P : Program} {w : World} {K : PySem.W.Frag} {mg : Str → Option Value} {base : Heap} (T : Txt K w mg) : FnD P w K mg base 7 T.a_law T.d_law ["script"] m_law :=
  fnD_of T.F_law sc_law fun cdv A outer s H E hr => (dss_cons (ds_set 1 sc_law.nd rfl (by first | exact Or.inl rfl | exact Or.inr rfl) (de_lstM (da_cons (de_var 0) (da_cons de_int (da_cons de_int (da_cons de_int da_nil)))))) (dss_cons (ds_par3 (i := 2) (j := 3) (l := 4) rfl sc_law.nd rfl rfl rfl (by decide) (by decide) (by decide) rfl rfl rfl (da_cons (de_call (ok__law_program T) (takes_of rfl rfl rfl rfl) (hr.mono (by decide)) (by rfl) T.g__law_program T.F__law_program.kp T.b__law_program rfl (da_cons (de_var 1) (da_cons de_int da_nil)) (hfl := (al_cons (al_cons al_nil)))) (da_cons (de_call (ok__law_design T) (takes_of rfl rfl rfl rfl) (hr.mono (by decide)) (by rfl) T.g__law_design T.F__law_design.kp T.b__law_design rfl (da_cons (de_var 1) da_nil) (hfl := (al_cons al_nil))) (da_cons (de_lstM da_nil) da_nil))) rfl) (dss_cons (ds_for (p := (.nm 5)) (passes_of rfl) rfl (di_seq (de_var 2)) (dg_nm (i := 5) sc_law.nd rfl (by first | exact Or.inl rfl | exact Or.inr rfl)) (dss_cons (ds_set 6 sc_law.nd rfl (by first | exact Or.inl rfl | exact Or.inr rfl) (de_join de_str (de_comp (own := [("one", 8)]) (p := (.nm 8)) rfl sc_law.nd (di_seq (de_var 5)) (blkOk_by (N := N_law) (sc := (defScope s_law)) (by decide +kernel)) (by decide) (fun _ _ _ _ _ => (dg_nm (i := 8) sc_law.nd rfl (by first | exact Or.inl rfl | exact Or.inr rfl))) (fun _ _ _ _ _ => dts_nil) (fun _ _ _ _ _ => (de_join de_str (de_comp (own := [("item", 9)]) (p := (.nm 9)) rfl sc_law.nd (di_seq (de_var 8)) (blkOk_by (by kernel_rfl)) (by decide) (fun _ _ _ _ _ => (dg_nm (i := 9) sc_law.nd rfl (by first | exact Or.inl rfl | exact Or.inr rfl))) (fun _ _ _ _ _ => dts_nil) (fun _ _ _ _ _ => (de_callTy call_str cd_str (by rfl) T.n_str (by decide +kernel) (da_cons (de_var 9) da_nil))))))))) (dss_one (ds_expr (de_append (de_var 4) (de_if (dt_cmp (op_neD (hu64 hr)) od_ne (de_var 6) de_str) (de_var 6) de_str)))))) (dss_cons (ds_set 7 sc_law.nd rfl (by first | exact Or.inl rfl | exact Or.inr rfl) (de_join de_str (de_var 4))) (dss_cons (ds_if (dt_w (dw_or (dt_not (dt_tr (de_call (ok__law_alike T 5) (takes_of rfl rfl rfl rfl) (hr.mono (by decide)) (by rfl) T.g__law_alike T.F__law_alike.kp T.b__law_alike rfl (da_cons (de_call (ok_write_program T) (takes_of rfl rfl rfl rfl) (hr.mono (by decide)) (by rfl) T.g_write_program T.F_write_program.kp T.b_write_program rfl (da_cons (de_var 2) da_nil) (hfl := (al_cons al_nil))) (da_cons (de_var 7) da_nil)) (hfl := (al_cons (al_cons al_nil)))))) (dw_or1 (dt_not (dt_tr (de_call (ok__law_alike T 5) (takes_of rfl rfl rfl rfl) (hr.mono (by decide)) (by rfl) T.g__law_alike T.F__law_alike.kp T.b__law_alike rfl (da_cons (de_call (ok_read_program T) (takes_of rfl rfl rfl rfl) (hr.mono (by decide)) (by rfl) T.g_read_program T.F_read_program.kp T.b_read_program rfl (da_cons (de_var 7) da_nil) (hfl := (al_cons al_nil))) (da_cons (de_var 2) da_nil)) (hfl := (al_cons (al_cons al_nil))))))))) (dss_one (ds_ret de_bl)) dss_nil) (dss_cons (ds_set 6 sc_law.nd rfl (by first | exact Or.inl rfl | exact Or.inr rfl) (de_if (dt_cmp (op_neD (hu64 hr)) od_ne (de_var 3) (de_tup da_nil)) (de_join de_str (de_var 3)) de_str)) (dss_one (ds_ret (de_and (de_call (ok__law_alike T 5) (takes_of rfl rfl rfl rfl) (hr.mono (by decide)) (by rfl) T.g__law_alike T.F__law_alike.kp T.b__law_alike rfl (da_cons (de_call (ok_write_design T) (takes_of rfl rfl rfl rfl) (hr.mono (by decide)) (by rfl) T.g_write_design T.F_write_design.kp T.b_write_design rfl (da_cons (de_var 3) da_nil) (hfl := (al_cons al_nil))) (da_cons (de_var 6) da_nil)) (hfl := (al_cons (al_cons al_nil)))) (de_one (de_call (ok__law_alike T 5) (takes_of rfl rfl rfl rfl) (hr.mono (by decide)) (by rfl) T.g__law_alike T.F__law_alike.kp T.b__law_alike rfl (da_cons (de_call (ok_read_design T) (takes_of rfl rfl rfl rfl) (hr.mono (by decide)) (by rfl) T.g_read_design T.F_read_design.kp T.b_read_design rfl (da_cons (de_var 6) da_nil) (hfl := (al_cons al_nil))) (da_cons (de_var 3) da_nil)) (hfl := (al_cons (al_cons al_nil))))))))))))))
end
end K10

set_option Elab.async false
set_option linter.all false
set_option maxRecDepth 100000
set_option maxHeartbeats 4000000
namespace K10
open PySem PySem.Spec L2 DL CM
open PyProof.Rows hiding St
section
variable {ns : List Int} {sc : D} (hS : Scr ns sc) {n : Nat}
include hS
theorem taken_go (many : Int) (h : 0 < many) (h2 : many < 1000) (p q c : Int) (st : Sto) (hr : st[n]? = some (rowS sc p q c)) (hp : 0 ≤ p) :
    ∃ f p' q' c', m__law_taken [.ref n, .int many] st = .ok (.int f) (st.set n (rowS sc p' q' c')) ∧ 0 ≤ f ∧ f < many ∧ 0 ≤ p' := by
  obtain ⟨hI, hL⟩ := hS
  have hn : n < st.length := (List.getElem?_eq_some_iff.mp hr).1
  have hm : many < 1073741824 := by omega
  have r1 : ∀ x : Int, (st.set n (.lst [sc, .int p, .int q, .int x]))[n]? = some (.lst [sc, .int p, .int q, .int x]) := fun x => get_set hr
  have r2 : ∀ x : Int, (st.set n (.lst [sc, .int x, .int q, .int c]))[n]? = some (.lst [sc, .int x, .int q, .int c]) := fun x => get_set hr
  have r3 : ∀ x y : Int, (st.set n (.lst [sc, .int x, .int y, .int c]))[n]? = some (.lst [sc, .int x, .int y, .int c]) := fun x y => get_set hr
  by_cases hc : 0 < c
  · refine ⟨c % many, p, q, c / many, ?_, Int.emod_nonneg _ (by omega), Int.emod_lt_of_pos _ h, hp⟩
    simp [m__law_taken, g__law_taken, ix_at hr, put_lit hr, hc, h, hm]
  · by_cases hl : ns.length < p + 1
    · refine ⟨((q * 48271 + 11) % 2147483647 / 7) % many, p + 1, (q * 48271 + 11) % 2147483647, c, ?_, Int.emod_nonneg _ (by omega), Int.emod_lt_of_pos _ h, by omega⟩
      simp [m__law_taken, g__law_taken, ix_at hr, put_lit hr, ix_at (r2 _), put_lit (r2 _), ix_at (r3 _ _), put_lit (r3 _ _), hc, h, hl, hI, hL]
    · have hi : p.toNat < ns.length := by omega
      have hx : atI (ns.map D.int) p = some (.int ns[p.toNat]) := atI_nat' hp (by simp [hi])
      generalize ns[p.toNat] = x at hx
      by_cases hb : 1000000000000000000 ≤ x
      · refine ⟨x % many, p + 1, (q * 48271 + x + 11) % 2147483647, x / many, ?_, Int.emod_nonneg _ (by omega), Int.emod_lt_of_pos _ h, by omega⟩
        simp [m__law_taken, g__law_taken, ix_at hr, put_lit hr, ix_at (r2 _), put_lit (r2 _), ix_at (r3 _ _), put_lit (r3 _ _), hc, h, hl, hI, hL, hx, hm, hb]
      · refine ⟨x % many, p + 1, (q * 48271 + x + 11) % 2147483647, c, ?_, Int.emod_nonneg _ (by omega), Int.emod_lt_of_pos _ h, by omega⟩
        simp [m__law_taken, g__law_taken, ix_at hr, put_lit hr, ix_at (r2 _), put_lit (r2 _), ix_at (r3 _ _), put_lit (r3 _ _), hc, h, hl, hI, hL, hx, hm, hb]
/-- what a draw leaves: another row -/
abbrev Row (n : Nat) (sc : D) (st st' : Sto) : Prop := ∃ p q c, st' = st.set n (rowS sc p q c) ∧ 0 ≤ p
theorem Row.trans {a b d : Sto} (h : Row n sc a b) (h' : Row n sc b d) : Row n sc a d := by
  obtain ⟨p, q, c, rfl, hp⟩ := h
  obtain ⟨p', q', c', rfl, hp'⟩ := h'
  exact ⟨p', q', c', by rw [List.set_set], hp'⟩
/-- a row stands at n -/
abbrev HasRow (n : Nat) (sc : D) (st : Sto) : Prop := ∃ p q c, st[n]? = some (rowS sc p q c) ∧ 0 ≤ p
theorem HasRow.row {st st' : Sto} (h : HasRow n sc st) (r : Row n sc st st') : HasRow n sc st' := by
  obtain ⟨p, q, c, h, _⟩ := h
  obtain ⟨p', q', c', rfl, hp'⟩ := r
  exact ⟨p', q', c', get_set h, hp'⟩
theorem HasRow.self {st : Sto} (h : HasRow n sc st) : Row n sc st st := by
  obtain ⟨p, q, c, h, hp⟩ := h
  refine ⟨p, q, c, ?_, hp⟩
  obtain ⟨hl, e⟩ := List.getElem?_eq_some_iff.mp h
  rw [← e, List.set_getElem_self]
theorem draw (many : Int) (h : 0 < many) (h2 : many < 1000) {st : Sto} (hr : HasRow n sc st) :
    ∃ f st', m__law_taken [.ref n, .int many] st = .ok (.int f) st' ∧ 0 ≤ f ∧ f < many ∧ Row n sc st st' ∧ HasRow n sc st' := by
  obtain ⟨p, q, c, hr', hp⟩ := id hr
  obtain ⟨f, p', q', c', e, h0, h1, hp'⟩ := taken_go hS many h h2 p q c st hr' hp
  have r : Row n sc st (st.set n (rowS sc p' q' c')) := ⟨p', q', c', rfl, hp'⟩
  exact ⟨f, _, e, h0, h1, r, HasRow.row hS hr r⟩
--PICK
theorem pick_go (l : List D) (h : 0 < l.length) (h2 : l.length < 1000) {st : Sto} (hr : HasRow n sc st) :
    ∃ x st', m__law_pick [.ref n, .lst l] st = .ok x st' ∧ x ∈ l ∧ Row n sc st st' ∧ HasRow n sc st' := by
  obtain ⟨f, st', e, h0, h1, r, hr'⟩ := draw hS l.length (by omega) (by omega) hr
  have hi : f.toNat < l.length := by omega
  have hx : atI l f = some l[f.toNat] := atI_nat' h0 (by simp [hi])
  refine ⟨l[f.toNat], st', ?_, List.getElem_mem hi, r, hr'⟩
  simp [m__law_pick, g__law_pick, e, hx]
--INS
theorem ins_go {st : Sto} (hr : HasRow n sc st) :
    ∃ i st', m__law_instruction [.ref n] st = .ok (Ins.enc i) st' ∧ i.drawn ∧ Row n sc st st' ∧ HasRow n sc st' := by
  obtain ⟨x, s1, e, hx, r1, hr1⟩ := pick_go hS [.str "read", .str "read", .str "read", .str "write", .str "write", .str "write", .str "copy", .str "fence", .str "guard"] (by decide) (by decide) hr
  obtain ⟨a, s2, e2, a0, a1, r2, hr2⟩ := draw hS 2 (by decide) (by decide) hr1
  obtain ⟨b, s3, e3, b0, b1, r3, hr3⟩ := draw hS 2 (by decide) (by decide) hr2
  obtain ⟨d, s4, e4, d0, d1, r4, hr4⟩ := draw hS 3 (by decide) (by decide) hr2
  have R3 := Row.trans hS (Row.trans hS r1 r2) r3
  have R4 := Row.trans hS (Row.trans hS r1 r2) r4
  simp only [List.mem_cons, List.not_mem_nil, or_false] at hx
  rcases hx with rfl | rfl | rfl | rfl | rfl | rfl | rfl | rfl | rfl
  · exact ⟨.rd a b, s3, by simp [m__law_instruction, g__law_instruction, e, e2, e3, Ins.enc], ⟨by omega, by omega⟩, R3, hr3⟩
  · exact ⟨.rd a b, s3, by simp [m__law_instruction, g__law_instruction, e, e2, e3, Ins.enc], ⟨by omega, by omega⟩, R3, hr3⟩
  · exact ⟨.rd a b, s3, by simp [m__law_instruction, g__law_instruction, e, e2, e3, Ins.enc], ⟨by omega, by omega⟩, R3, hr3⟩
  · exact ⟨.wr a (1 + d), s4, by simp [m__law_instruction, g__law_instruction, e, e2, e4, Ins.enc], ⟨by omega, by omega⟩, R4, hr4⟩
  · exact ⟨.wr a (1 + d), s4, by simp [m__law_instruction, g__law_instruction, e, e2, e4, Ins.enc], ⟨by omega, by omega⟩, R4, hr4⟩
  · exact ⟨.wr a (1 + d), s4, by simp [m__law_instruction, g__law_instruction, e, e2, e4, Ins.enc], ⟨by omega, by omega⟩, R4, hr4⟩
  · exact ⟨.cp a b, s3, by simp [m__law_instruction, g__law_instruction, e, e2, e3, Ins.enc], ⟨by omega, by omega⟩, R3, hr3⟩
  · exact ⟨.fn, s1, by simp [m__law_instruction, g__law_instruction, e, Ins.enc], trivial, r1, hr1⟩
  · exact ⟨.gd a b, s3, by simp [m__law_instruction, g__law_instruction, e, e2, e3, Ins.enc], ⟨by omega, by omega⟩, R3, hr3⟩
--DESIGN
theorem design_comp : ∀ (ws : List Str) {st : Sto}, HasRow n sc st →
    ∃ (sub : List Str) (st' : Sto), compGo [some (.ref n), none] (.nm 1) (gBl (gOp mEq (gCall m__law_taken (aCons (gVar 0) (aCons (gC (.int 2)) aNil))) (gC (.int 0)))) (gVar 1) (ws.map D.str) st = .ok (sub.map D.str) st' ∧ sub.Sublist ws ∧ Row n sc st st' ∧ HasRow n sc st'
  | [], st, hr => ⟨[], st, rfl, .slnil, HasRow.self hS hr, hr⟩
  | w :: ws, st, hr => by
    obtain ⟨f, s1, e, f0, f1, r1, hr1⟩ := draw hS 2 (by decide) (by decide) hr
    obtain ⟨sub, s2, e2, hs, r2, hr2⟩ := design_comp ws hr1
    by_cases hf : f = 0
    · exact ⟨w :: sub, s2, by simp [k_nm, e, e2, hf], hs.cons_cons _, Row.trans hS r1 r2, hr2⟩
    · exact ⟨sub, s2, by simp [k_nm, e, e2, hf], hs.cons _, Row.trans hS r1 r2, hr2⟩
theorem design_go {st : Sto} (hr : HasRow n sc st) :
    ∃ (sub : List Str) (st' : Sto), m__law_design [.ref n] st = .ok (.tup (sub.map D.str)) st' ∧ sub.Sublist words8 ∧ Row n sc st st' ∧ HasRow n sc st' := by
  obtain ⟨sub, s1, e, hs, r1, hr1⟩ := design_comp hS words8 hr
  refine ⟨sub, s1, ?_, hs, r1, hr1⟩
  simp only [List.map_cons, List.map_nil] at e
  simp [m__law_design, g__law_design, e]
--PROGRAM
theorem core_comp : ∀ (k : List D) (ρ : DL.Env) (h6 : ρ.length = 7) (h0 : ρ[0]? = some (some (.ref n))) {st : Sto}, HasRow n sc st →
    ∃ (c : List Ins) (st' : Sto), compGo ρ (.nm 6) gYes (gCall m__law_instruction (aCons (gVar 0) aNil)) k st = .ok (c.map Ins.enc) st' ∧ c.length = k.length ∧ (∀ i ∈ c, i.drawn) ∧ Row n sc st st' ∧ HasRow n sc st'
  | [], ρ, h6, h0, st, hr => ⟨[], st, rfl, rfl, by simp, HasRow.self hS hr, hr⟩
  | d :: k, ρ, h6, h0, st, hr => by
    obtain ⟨i, s1, e, hi, r1, hr1⟩ := ins_go hS hr
    obtain ⟨c, s2, e2, hl, hc, r2, hr2⟩ := core_comp k ρ h6 h0 hr1
    have hv : ∀ st, gVar 0 (ρ.set 6 (some d)) st = .ok (.ref n) st := fun st => by
      unfold gVar
      rw [List.getElem?_set_ne (by decide), h0]
    refine ⟨i :: c, s2, by simp [k_nm, hv, e, e2], by simp [hl], fun x hx => ?_, Row.trans hS r1 r2, hr2⟩
    rcases List.mem_cons.mp hx with rfl | hx
    · exact hi
    · exact hc x hx
abbrev bodyP : G Fl := (sSeq (sSet 5 (gCB mMin2 (aCons (gVar 2) (aCons (gCall m__law_taken (aCons (gVar 0) (aCons (gC (.int 5)) aNil))) aNil)))) (sSeq (sSet 3 (gOp mAdd (gVar 3) (gTupD (aCons (gCB mTuple (aCons (gComp [6] (gRange1 (aCons (gVar 5) aNil)) (.nm 6) gYes (gCall m__law_instruction (aCons (gVar 0) aNil))) aNil)) aNil)))) (sSet 2 (gOp mSub (gVar 2) (gVar 5)))))
theorem prog_loop : ∀ (k : List D) (most : D) (L : Int) (p0 : List (List Ins)) (t m u : Option D) {st : Sto}, 0 ≤ L → L ≤ 1000 → p0.length + k.length ≤ 10 → HasRow n sc st →
    ∃ (q : List (List Ins)) (st' : Sto) (L' : Int) (t' m' u' : Option D), forGo (.nm 4) bodyP k [some (.ref n), some most, some (.int L), some (encP p0), t, m, u] st = .ok (.nx [some (.ref n), some most, some (.int L'), some (encP (p0 ++ q)), t', m', u']) st' ∧
      q.length = k.length ∧ (∀ c ∈ q, c.length ≤ 4 ∧ ∀ i ∈ c, i.drawn) ∧ 0 ≤ L' ∧ L = L' + ((q.map List.length).sum : Nat) ∧ Row n sc st st' ∧ HasRow n sc st'
  | [], most, L, p0, t, m, u, st, h0, _, _, hr => ⟨[], st, L, t, m, u, by simp [forGo], rfl, by simp, h0, by simp, HasRow.self hS hr, hr⟩
  | d :: k, most, L, p0, t, m, u, st, h0, hL, hl, hr => by
    obtain ⟨f, s1, e, f0, f1, r1, hr1⟩ := draw hS 5 (by decide) (by decide) hr
    have hmin : ∃ g : Nat, (if f < L then f else L) = (g : Int) ∧ (g : Int) ≤ L ∧ g ≤ 4 := by
      by_cases hc : f < L
      · exact ⟨f.toNat, by rw [if_pos hc]; omega, by omega, by omega⟩
      · exact ⟨L.toNat, by rw [if_neg hc]; omega, by omega, by omega⟩
    obtain ⟨g, eg, g0, g1⟩ := hmin
    obtain ⟨c, s2, e2, hcl, hcd, r2, hr2⟩ := core_comp hS (intsD 0 g) [some (.ref n), some most, some (.int L), some (encP p0), some d, some (.int (g : Int)), none] rfl rfl hr1
    obtain ⟨q, s3, L', t', m', u', e3, q1, q2, q3, q4, r3, hr3⟩ := prog_loop k most (L - (g : Int)) (p0 ++ [c]) (some d) (some (.int (g : Int))) u (by omega) (by omega) (by simp at hl ⊢; omega) hr2
    have hcl' : c.length = g := by rw [hcl]; simp [intsD]
    refine ⟨c :: q, s3, L', t', m', u', ?_, by simp [q1], fun x hx => ?_, q3, ?_, Row.trans hS r1 (Row.trans hS r2 r3), hr3⟩
    · have hg : (g : Int) ≤ 1000000 ∧ (-1000000 : Int) ≤ (g : Int) := by omega
      have hz : p0.length + 1 ≤ LIM := by
        show p0.length + 1 ≤ 1000000
        simp at hl; omega
      have eP : encP (p0 ++ [c]) = .tup (p0.map encC ++ [.tup (c.map Ins.enc)]) := by simp [encP, encC]
      rw [eP] at e3
      simp only [List.append_assoc, List.singleton_append] at e3
      simp only [encP] at e2 e3 ⊢
      have e4 : (p0 ++ c :: q).map encC = p0.map encC ++ encC c :: q.map encC := by simp
      rw [e4] at e3 ⊢
      simp [forGo, Pat.set, e, eg, hg, e2, hz, e3]
    · rcases List.mem_cons.mp hx with rfl | hx
      · exact ⟨by omega, hcd⟩
      · exact q2 x hx
    · simp only [List.map_cons, List.sum_cons, hcl']
      omega
/-- a program as it is drawn -/
structure PDr (most : Nat) (p : List (List Ins)) : Prop where
  n1 : 1 ≤ p.length
  n3 : p.length ≤ 3
  c4 : ∀ c ∈ p, c.length ≤ 4
  ins : ∀ c ∈ p, ∀ i ∈ c, i.drawn
  all : (p.map List.length).sum ≤ most
omit hS in
theorem PDr.ok {most : Nat} {p : List (List Ins)} (h : PDr most p) (hm : most ≤ 10) : POk p :=
  ⟨fun c hc i hi => (h.ins c hc i hi).ok, h.n1, h.n3, fun c hc => by have := h.c4 c hc; omega, by have := h.all; omega⟩
theorem program_go (most : Nat) (hm : most ≤ 10) {st : Sto} (hr : HasRow n sc st) :
    ∃ (p : List (List Ins)) (st' : Sto), m__law_program [.ref n, .int (most : Int)] st = .ok (encP p) st' ∧ PDr most p ∧ Row n sc st st' ∧ HasRow n sc st' := by
  obtain ⟨x, s1, e1, hx, r1, hr1⟩ := pick_go hS [.int 0, .int 1, .int 1, .int 1, .int 2] (by decide) (by decide) hr
  have hk : ∃ k : Nat, x = .int (k : Int) ∧ k ≤ 2 := by
    simp only [List.mem_cons, List.not_mem_nil, or_false] at hx
    rcases hx with rfl | rfl | rfl | rfl | rfl
    · exact ⟨0, rfl, by decide⟩
    · exact ⟨1, rfl, by decide⟩
    · exact ⟨1, rfl, by decide⟩
    · exact ⟨1, rfl, by decide⟩
    · exact ⟨2, rfl, by decide⟩
  obtain ⟨k, rfl, hk⟩ := hk
  have hkl : (intsD 0 (k + 1)).length = k + 1 := by simp [intsD]
  obtain ⟨q, s2, L', t', m', u', e2, q1, q2, q3, q4, r2, hr2⟩ := prog_loop hS (intsD 0 (k + 1)) (.int (most : Int)) (most : Int) [] none none none (by omega) (by omega) (by rw [hkl]; simp; omega) hr1
  refine ⟨q, s2, ?_, ⟨by omega, by omega, fun c hc => (q2 c hc).1, fun c hc => (q2 c hc).2, by omega⟩, Row.trans hS r1 r2, hr2⟩
  have h1 : (1 : Int) + k ≤ 1000000 ∧ (-1000000 : Int) ≤ 1 + k := by omega
  have h2 : ((1 : Int) + k).toNat = k + 1 := by omega
  simp only [encP, List.map_nil] at e2
  simp [m__law_program, g__law_program, e1, h1, h2, e2, encP]
end
end K10

set_option Elab.async false
set_option linter.all false
set_option maxRecDepth 100000
set_option maxHeartbeats 4000000
namespace K10
open PySem PySem.Spec L2 DL CM
open PyProof.Rows hiding St
theorem alike_comp {rec : List D → Sto → Out D} {ρ : DL.Env} (hl : ρ.length = 3) {d e : D} (h0 : ρ[0]? = some (some d)) (h1 : ρ[1]? = some (some e)) {l : List D} (st : Sto) (hd : ∀ k : Nat, k < l.length → mIx d (.int (k : Int)) st = l[k]?) (he : ∀ k : Nat, k < l.length → mIx e (.int (k : Int)) st = l[k]?) (h : ∀ x ∈ l, rec [x, x] st = .ok (.bl true) st) :
    ∀ ks : List Nat, (∀ k ∈ ks, k < l.length) → compGo ρ (.nm 2) (gTNot (gTr (gCall rec (aCons (gOp mIx (gVar 0) (gVar 2)) (aCons (gOp mIx (gVar 1) (gVar 2)) aNil))))) (gVar 2) (ks.map fun j : Nat => D.int (j : Int)) st = .ok [] st
  | [], _ => rfl
  | k :: ks, hk => by
    have ih := alike_comp hl h0 h1 st hd he h ks fun j hj => hk j (List.mem_cons_of_mem _ hj)
    have hk' := hk k List.mem_cons_self
    have v0 : ∀ x st, gVar 0 (ρ.set 2 x) st = .ok d st := fun x st => gv (by rw [List.getElem?_set_ne (by decide), h0])
    have v1 : ∀ x st, gVar 1 (ρ.set 2 x) st = .ok e st := fun x st => gv (by rw [List.getElem?_set_ne (by decide), h1])
    have v2 : ∀ x st, gVar 2 (ρ.set 2 (some x)) st = .ok x st := fun x st => gv (by rw [List.getElem?_set_self (by omega)])
    have hx := h l[k] (List.getElem_mem hk')
    simp [k_nm, v0, v1, v2, hd k hk', he k hk', List.getElem?_eq_getElem hk', hx, ih]
theorem alike_refl : ∀ (n : Nat) (d : D) (st : Sto), alk n d = true → m__law_alike n [d, d] st = .ok (.bl true) st
  | 0, _, _, h => by simp [alk] at h
  | n + 1, .non, st, _ => by simp [m__law_alike, g__law_alike, isiB, isiAny]
  | n + 1, .bl _, st, _ => by simp [m__law_alike, g__law_alike, isiB, isiAny]
  | n + 1, .int _, st, _ => by simp [m__law_alike, g__law_alike, isiB, isiAny]
  | n + 1, .str x, st, h => by
    simp only [alk] at h
    simp [m__law_alike, g__law_alike, isiB, isiAny, okStr h]
  | n + 1, .tup l, st, h => by
    simp only [alk, Bool.and_eq_true, List.all_eq_true, decide_eq_true_eq] at h
    have e := alike_comp (rec := m__law_alike n) (ρ := [some (.tup l), some (.tup l), none]) rfl rfl rfl (l := l) st (fun k hk => by show atI l _ = _; rw [atI_mem hk, List.getElem?_eq_getElem hk]) (fun k hk => by show atI l _ = _; rw [atI_mem hk, List.getElem?_eq_getElem hk])
      (fun x hx => alike_refl n x st (h.1 x hx)) (List.range l.length) fun k hk => List.mem_range.mp hk
    rw [← CM.ints_map] at e
    have h1 : (l.length : Int) ≤ 1000000 ∧ (-1000000 : Int) ≤ l.length := by omega
    simp [m__law_alike, g__law_alike, isiB, isiAny, h1, e]
  | n + 1, .lst l, st, h => by
    simp only [alk, Bool.and_eq_true, List.all_eq_true, decide_eq_true_eq] at h
    have e := alike_comp (rec := m__law_alike n) (ρ := [some (.lst l), some (.lst l), none]) rfl rfl rfl (l := l) st (fun k hk => by show atI l _ = _; rw [atI_mem hk, List.getElem?_eq_getElem hk]) (fun k hk => by show atI l _ = _; rw [atI_mem hk, List.getElem?_eq_getElem hk])
      (fun x hx => alike_refl n x st (h.1 x hx)) (List.range l.length) fun k hk => List.mem_range.mp hk
    rw [← CM.ints_map] at e
    have h1 : (l.length : Int) ≤ 1000000 ∧ (-1000000 : Int) ≤ l.length := by omega
    simp [m__law_alike, g__law_alike, isiB, isiAny, h1, e]
  | n + 1, .ro _, _, h => by simp [alk] at h
  | n + 1, .ref _, _, h => by simp [alk] at h
  | n + 1, .raw _, _, h => by simp [alk] at h
end K10

set_option Elab.async false
set_option linter.all false
set_option maxRecDepth 100000
set_option maxHeartbeats 4000000
namespace K10
open PySem PySem.Spec L2 DL CM
open PyProof.Rows hiding St
theorem number_go (v g : Int) (st : Sto) : m_is_number [.int v, .int g] st = .ok (.bl (decide (0 ≤ v ∧ v ≤ g))) st := by
  by_cases h : 0 ≤ v
  · simp [m_is_number, g_is_number, isiB, h]
  · simp [m_is_number, g_is_number, isiB, h]
theorem instr_go (i : Ins) (st : Sto) (h : i.ok) : m_is_instruction [i.enc] st = .ok (.bl true) st := by
  cases i <;> simp [Ins.ok] at h <;> simp [Ins.enc, m_is_instruction, g_is_instruction, isiB, t_GREATEST, List.lookup, k_t2, number_go]
  all_goals omega
theorem core_all (ρ : DL.Env) (hl : 1 < ρ.length) (st : Sto) : ∀ c : List Ins, (∀ i ∈ c, i.ok) → compGo ρ (.nm 1) gYes (gCall m_is_instruction (aCons (gVar 1) aNil)) (c.map Ins.enc) st = .ok (c.map fun _ => D.bl true) st
  | [], _ => rfl
  | i :: c, h => by
    have ih := core_all ρ hl st c fun x hx => h x (List.mem_cons_of_mem _ hx)
    have hv : ∀ st, gVar 1 (ρ.set 1 (some i.enc)) st = .ok i.enc st := fun st => gv (by rw [List.getElem?_set_self hl])
    simp [k_nm, hv, instr_go i st (h i List.mem_cons_self), ih]
theorem is_core_go {c : List Ins} (hc : ∀ i ∈ c, i.ok) (h5 : c.length ≤ 5) (st : Sto) : m_is_core [encC c] st = .ok (.bl true) st := by
  have e := core_all [some (.tup (c.map Ins.enc)), none] (by simp) st c hc
  have h : ¬ (5 : Int) < c.length := by omega
  have hb := bls_true c
  have ha : (List.map (fun _ => true) c).all id = true := by simp
  simp [encC, m_is_core, g_is_core, isiB, h, e, hb, -List.map_const']
--PROGRAM
abbrev bodyK : G Fl := (sSeq (sIf (gTOr (gTNot (gTr (gCall m_is_core (aCons (gVar 3) aNil)))) (gBl (gOp mGt (gOp mAdd (gVar 1) (gCB mLen (aCons (gVar 3) aNil))) (gC (.int 10))))) sBad sNext) (sAug mIAdd 1 (gCB mLen (aCons (gVar 3) aNil))))
theorem chk_loop (v : D) (st : Sto) : ∀ (p : List (List Ins)) (k : Nat) (t : Int) (x y : Option D), (∀ c ∈ p, ∀ i ∈ c, i.ok) → (∀ c ∈ p, c.length ≤ 5) → t + ((p.map List.length).sum : Nat) ≤ 10 →
    ∃ t' x' y', forGo (.tp [.nm 2, .nm 3]) bodyK (enumD k (p.map encC)) [some v, some (.int t), x, y] st = .ok (.nx [some v, some (.int t'), x', y']) st
  | [], k, t, x, y, _, _, _ => ⟨t, x, y, by simp [enumD, forGo]⟩
  | c :: p, k, t, x, y, h1, h2, h3 => by
    simp only [List.map_cons, List.sum_cons] at h3
    obtain ⟨t', x', y', e⟩ := chk_loop v st p (k + 1) (t + c.length) (some (.int (k : Int))) (some (encC c)) (fun d hd => h1 d (List.mem_cons_of_mem _ hd)) (fun d hd => h2 d (List.mem_cons_of_mem _ hd)) (by omega)
    refine ⟨t', x', y', ?_⟩
    have hg : ¬ (10 : Int) < t + c.length := by omega
    have hl : mLen [encC c] st = some (.int (c.length : Int)) := by simp [encC]
    have hi := is_core_go (h1 c List.mem_cons_self) (h2 c List.mem_cons_self) st
    simp [enumD, forGo, Pat.set, Pats.set, hi, hl, hg, e]
theorem check_program_go {p : List (List Ins)} (h : POk p) (st : Sto) : m_check_program [encP p] st = .ok .non st := by
  obtain ⟨t', x', y', e⟩ := chk_loop (encP p) st p 0 0 none none h.ins h.c5 (by have := h.all; omega)
  have h1 : (1 : Int) ≤ p.length ∧ (p.length : Int) ≤ 3 := by have := h.n1; have := h.n3; omega
  have h1n : 1 ≤ p.length := h.n1
  have h3n : p.length ≤ 3 := h.n3
  simp only [encP] at e
  simp [encP, m_check_program, g_check_program, isiB, h1, h1n, h3n, e]
--DESIGN
theorem filt_go (l : List D) (hl : okD (.tup l) = true) (st : Sto) : ∀ ws : List Str, (∀ w ∈ ws, PyData.strOk w = true) →
    compGo [some (.tup l), none] (.nm 1) (gBl (gOp (mIn false) (gVar 1) (gVar 0))) (gVar 1) (ws.map D.str) st = .ok ((ws.filter fun w => l.any fun z => eqD z (.str w)).map D.str) st
  | [], _ => rfl
  | w :: ws, h => by
    have ih := filt_go l hl st ws fun x hx => h x (List.mem_cons_of_mem _ hx)
    have hw : okD (.str w) = true := okStr (h w List.mem_cons_self)
    cases e : l.any fun z => eqD z (.str w) <;> simp [k_nm, in_tup, hw, ih, e, -ok_tup, hl]
theorem is_design_tup (l : List D) (hl : okD (.tup l) = true) (st : Sto) : m_is_design [.tup l] st = .ok (.bl (eqD (.tup l) (.tup ((words8.filter fun w => l.any fun z => eqD z (.str w)).map D.str)))) st := by
  have e := filt_go l hl st words8 words_ok
  have ho : okD (.tup ((words8.filter fun w => l.any fun z => eqD z (.str w)).map D.str)) = true := by
    rw [ok_tup]
    exact okB_strs fun s hs => words_ok s ((List.mem_filter.mp hs).1)
  simp only [List.map_cons, List.map_nil] at e
  simp [m_is_design, g_is_design, isiB, c_WORDS, e, -ok_tup, hl, ho, -q_tup]
theorem is_design_strs (ss : List Str) (hs : ∀ s ∈ ss, PyData.strOk s = true) (st : Sto) : m_is_design [.tup (ss.map D.str)] st = .ok (.bl (decide (ss = words8.filter fun w => decide (w ∈ ss)))) st := by
  rw [is_design_tup _ (by rw [ok_tup]; exact okB_strs hs)]
  simp only [any_strs, q_tup, qs_strs]
theorem is_design_go {sub : List Str} (h : sub.Sublist words8) (st : Sto) : m_is_design [.tup (sub.map D.str)] st = .ok (.bl true) st := by
  have e := is_design_strs sub (fun s hs => words_ok s (h.subset hs)) st
  rw [decide_eq_true (sub_design sub h)] at e
  exact e
theorem check_design_go {sub : List Str} (h : sub.Sublist words8) (st : Sto) : m_check_design [.tup (sub.map D.str)] st = .ok .non st := by
  simp [m_check_design, g_check_design, is_design_go h st]
end K10

set_option Elab.async false
set_option linter.all false
set_option maxRecDepth 100000
set_option maxHeartbeats 4000000
namespace K10
open PySem PySem.Spec L2 DL CM
open PyProof.Rows hiding St
theorem str_dg {n : Int} (h : 0 ≤ n ∧ n ≤ 9) (st : Sto) : mStr [.int n] st = some (.str (dg n)) := by
  simp only [mStr, log_dg h, if_true]
  rfl
theorem items_comp {ρ : DL.Env} {v : Nat} (hv : v < ρ.length) (st : Sto) : ∀ ns : List Int, (∀ n ∈ ns, 0 ≤ n ∧ n ≤ 9) → compGo ρ (.nm v) gYes (gCB mStr (aCons (gVar v) aNil)) (ns.map D.int) st = .ok ((ns.map dg).map D.str) st
  | [], _ => rfl
  | n :: ns, h => by
    have ih := items_comp hv st ns fun x hx => h x (List.mem_cons_of_mem _ hx)
    have e : ∀ x st, gVar v (ρ.set v (some x)) st = .ok x st := fun x st => gv (by rw [List.getElem?_set_self hv])
    simp [k_nm, e, str_dg (h n List.mem_cons_self), ih]
theorem part_go {ρ : DL.Env} {v u : Nat} {i : Ins} (hi : i.ok) (hu : v < ρ.length) (hv : ∀ st, gVar u ρ st = .ok i.enc st) (st : Sto) :
    gM1 mJoin (gC (.str " ")) (gComp [v] (gSeq (gVar u)) (.nm v) gYes (gCB mStr (aCons (gVar v) aNil))) ρ st = .ok (.str (partT i)) st := by
  have hv' : v < (ρ.set v none).length := by simpa using hu
  have e0 : ∀ x st, gVar v (ρ.set v (some x)) st = .ok x st := fun x st => gv (by rw [List.getElem?_set_self hu])
  have e := items_comp hv' st i.nums (Ins.nums_ok hi)
  have e2 : compGo (ρ.set v none) (.nm v) gYes (gCB mStr (aCons (gVar v) aNil)) (.str i.name :: i.nums.map D.int) st = .ok (i.strs.map D.str) st := by
    rw [Ins.strs_eq]
    simp [k_nm, e0, mStr, e]
  have hj : mJoin (.str " ") [.lst (i.strs.map D.str)] st = some (.str (partT i)) := by
    have h1 := strs_sum hi
    simp only [mJoin, joinD, strsD_map, sp_len]
    rw [if_pos (by omega)]
    rfl
  simp [hv, Ins.enc_eq, e2, hj]
theorem parts_comp {ρ : DL.Env} {u v : Nat} (hv : v < ρ.length) (hu : u < ρ.length) (huv : u ≠ v) (st : Sto) : ∀ c : List Ins, (∀ i ∈ c, i.ok) →
    compGo ρ (.nm u) gYes (gM1 mJoin (gC (.str " ")) (gComp [v] (gSeq (gVar u)) (.nm v) gYes (gCB mStr (aCons (gVar v) aNil)))) (c.map Ins.enc) st = .ok ((c.map partT).map D.str) st
  | [], _ => rfl
  | i :: c, h => by
    have ih := parts_comp hv hu huv st c fun x hx => h x (List.mem_cons_of_mem _ hx)
    have e := part_go (ρ := ρ.set u (some i.enc)) (v := v) (u := u) (h i List.mem_cons_self) (by simpa using hv) (fun st => gv (by rw [List.getElem?_set_self hu])) st
    simp [k_nm, e, ih, -e_M1]
theorem join_line {c : List Ins} (hc : ∀ i ∈ c, i.ok) (h5 : c.length ≤ 5) (st : Sto) : mJoin (.str "; ") [.lst ((c.map partT).map D.str)] st = some (.str (lineT c)) := by
  have h1 := line_sum hc h5
  simp only [mJoin, joinD, strsD_map, sc_len]
  rw [if_pos (by omega)]
  rfl
theorem write_core_go {c : List Ins} (hc : ∀ i ∈ c, i.ok) (h5 : c.length ≤ 5) (st : Sto) : m_write_core [encC c] st = .ok (.str (coreT c)) st := by
  have e := parts_comp (ρ := [some (encC c), none, none]) (u := 1) (v := 2) (by simp) (by simp) (by decide) st c hc
  have hj := join_line hc h5 st
  have ho : (c.map Ins.enc).all (okB 63) = true := by
    rw [List.all_map, List.all_eq_true]
    intro i _
    cases i <;> simp [Ins.enc]
  cases hn : c with
  | nil => simp [m_write_core, g_write_core, encC, coreT]
  | cons i d =>
    rw [← hn]
    have hq : eqDs (c.map Ins.enc) [] = false := by rw [hn]; rfl
    have hne : c ≠ [] := by rw [hn]; simp
    simp only [encC] at e
    simp [m_write_core, g_write_core, encC, coreT_ne hne, ho, hq, e, hj, -List.map_map, -List.all_map]
theorem cores_comp {ρ : DL.Env} (hv : 1 < ρ.length) (st : Sto) : ∀ p : List (List Ins), (∀ c ∈ p, ∀ i ∈ c, i.ok) → (∀ c ∈ p, c.length ≤ 5) →
    compGo ρ (.nm 1) gYes (gCall m_write_core (aCons (gVar 1) aNil)) (p.map encC) st = .ok ((p.map coreT).map D.str) st
  | [], _, _ => rfl
  | c :: p, h, h5 => by
    have ih := cores_comp hv st p (fun x hx => h x (List.mem_cons_of_mem _ hx)) fun x hx => h5 x (List.mem_cons_of_mem _ hx)
    have e : ∀ x st, gVar 1 (ρ.set 1 (some x)) st = .ok x st := fun x st => gv (by rw [List.getElem?_set_self hv])
    simp [k_nm, e, write_core_go (h c List.mem_cons_self) (h5 c List.mem_cons_self), ih]
theorem join_prog {p : List (List Ins)} (h : POk p) (st : Sto) : mJoin (.str "\n") [.lst ((p.map coreT).map D.str)] st = some (.str (progT p)) := by
  have h1 := prog_sum h
  simp only [mJoin, joinD, strsD_map, nl_len]
  rw [if_pos (by omega)]
  rfl
theorem write_program_go {p : List (List Ins)} (h : POk p) (st : Sto) : m_write_program [encP p] st = .ok (.str (progT p)) st := by
  have e := cores_comp (ρ := [some (encP p), none]) (by simp) st p h.ins h.c5
  have hj := join_prog h st
  have hc := check_program_go h st
  simp only [encP] at e hc
  simp [m_write_program, g_write_program, encP, hc, e, hj, -List.map_map]
--DESIGN
theorem join_des {sub : List Str} (h : sub.Sublist words8) (st : Sto) : mJoin (.str " ") [.tup (sub.map D.str)] st = some (.str (Txt.join " " sub)) := by
  have h1 := des_sum h
  simp only [mJoin, joinD, strsD_map, sp_len]
  rw [if_pos (by omega)]
theorem des_nil {sub : List Str} (h : sub.Sublist words8) (st : Sto) : mEq (.tup (sub.map D.str)) (.tup []) st = some (.bl (decide (sub = []))) := by
  have := qs_strs sub []
  simp only [List.map_nil] at this
  simp [des_ok h, this, -List.all_map]
theorem write_design_go {sub : List Str} (h : sub.Sublist words8) (st : Sto) : m_write_design [.tup (sub.map D.str)] st = .ok (.str (desT sub)) st := by
  have e1 := check_design_go h st
  have e2 := des_nil h st
  have e3 := join_des h st
  by_cases hn : sub = []
  · subst hn
    simp only [List.map_nil] at e1 e2
    simp [m_write_design, g_write_design, e1, e2, desT, -o_eq]
  · simp [m_write_design, g_write_design, e1, e2, e3, desT, hn, -o_eq]
end K10

set_option Elab.async false
set_option linter.all false
set_option maxRecDepth 100000
set_option maxHeartbeats 4000000
namespace K10
open PySem PySem.Spec L2 DL CM
open PyProof.Rows hiding St
@[simp] theorem o_dig {x : Str} {st : Sto} : mIsdigit (.str x) [] st = some (.bl (Txt.isdigit x)) := rfl
@[simp] theorem o_asc {x : Str} {st : Sto} : mIsascii (.str x) [] st = some (.bl (Txt.isascii x)) := rfl
@[simp] theorem o_stw {x y : Str} {st : Sto} : mStartswith (.str x) [.str y] st = some (.bl (Txt.startswith x y)) := rfl
theorem dg_eq0 {k : Nat} (hk : k < 10) : (dg (k : Int) == ("0" : Str)) = decide (k = 0) := by
  have : k = 0 ∨ k = 1 ∨ k = 2 ∨ k = 3 ∨ k = 4 ∨ k = 5 ∨ k = 6 ∨ k = 7 ∨ k = 8 ∨ k = 9 := by omega
  rcases this with rfl | rfl | rfl | rfl | rfl | rfl | rfl | rfl | rfl | rfl <;> decide +kernel
theorem len_str {x : Str} (h : x.length ≤ 1000000) (st : Sto) : mLen [.str x] st = some (.int (x.length : Int)) := by
  simp only [mLen]
  rw [if_pos (show x.length ≤ LIM from h)]
theorem dg0 : Txt.isascii (dg 0) = true ∧ Txt.isdigit (dg 0) = true := by decide +kernel
theorem dg0s : dg 0 = "0" := by decide +kernel
theorem numeral_go {k : Nat} (hk : k < 10) (st : Sto) : m_is_numeral [.str (dg (k : Int))] st = .ok (.bl true) st := by
  obtain ⟨f1, f2, f3, f4, f5, f6⟩ := dg_facts k hk
  have e0 := dg_eq0 hk
  by_cases h0 : k = 0
  · subst h0
    have a1 : Txt.isascii ("0" : Str) = true := by decide +kernel
    have a2 : Txt.isdigit ("0" : Str) = true := by decide +kernel
    have a3 : dg ((0 : Nat) : Int) = "0" := dg0s
    rw [a3]
    simp [m_is_numeral, g_is_numeral, a1, a2]
  · simp [m_is_numeral, g_is_numeral, f1, f2, okStr f6, e0, h0, f5 h0]
theorem read_number_go {n : Int} (h : 0 ≤ n ∧ n ≤ 9) (st : Sto) : m_read_number [.str (dg n)] st = .ok (.int n) st := by
  obtain ⟨k, rfl, hk⟩ := dg_of h
  obtain ⟨f1, f2, f3, f4, f5, f6⟩ := dg_facts k hk
  have hl := len_str (x := dg (k : Int)) (by rw [f3]; decide) st
  rw [f3] at hl
  have hi : mIntT [.str (dg (k : Int))] st = some (.int (k : Int)) := by
    simp only [mIntT, f3, f4, Option.map_some]
    rfl
  simp [m_read_number, g_read_number, hl, numeral_go hk, hi]
theorem nums_comp {ρ : DL.Env} (hv : 2 < ρ.length) (st : Sto) : ∀ ns : List Int, (∀ n ∈ ns, 0 ≤ n ∧ n ≤ 9) → compGo ρ (.nm 2) gYes (gCall m_read_number (aCons (gVar 2) aNil)) ((ns.map dg).map D.str) st = .ok (ns.map D.int) st
  | [], _ => rfl
  | n :: ns, h => by
    have ih := nums_comp hv st ns fun x hx => h x (List.mem_cons_of_mem _ hx)
    have e : ∀ x st, gVar 2 (ρ.set 2 (some x)) st = .ok x st := fun x st => gv (by rw [List.getElem?_set_self hv])
    simp only [List.map_cons]
    simp [k_nm, e, read_number_go (h n List.mem_cons_self), ih, -List.map_map]
theorem split_go {x y : Str} {st : Sto} (hy : y.length ≠ 0) (hx : x.length ≤ 1000000) : mSplit (.str x) [.str y] st = some (.lst ((Txt.split x y).map D.str)) := by
  simp only [mSplit]
  rw [if_pos ⟨hy, hx⟩]
@[simp] theorem c_n1 {d : D} {l : List D} {st : Sto} : mSl (.lst (d :: l)) none (some 1) st = some (.lst [d]) := by
  show some (D.lst (DL.cutD _ _ _)) = _
  refine congrArg (fun z => some (D.lst z)) ?_
  unfold DL.cutD
  rw [show HT.sIx (d :: l).length (d :: l).length (some 1) = 1 from by rw [show (1 : Int) = ((1 : Nat) : Int) from rfl, HT.sIx_nat]; simp, HT.sIx_none]
  simp
@[simp] theorem c_1nl {d : D} {l : List D} {st : Sto} : mSl (.lst (d :: l)) (some 1) none st = some (.lst l) := by
  show some (D.lst _) = _
  congr 2
  unfold DL.cutD
  rw [show HT.sIx (d :: l).length 0 (some 1) = 1 from by rw [show (1 : Int) = ((1 : Nat) : Int) from rfl, HT.sIx_nat]; simp, HT.sIx_none]
  simp
theorem nums_len (i : Ins) : i.nums.length ≤ 2 := by cases i <;> simp [Ins.nums]
theorem read_items_go {i : Ins} (h : i.ok) (st : Sto) : m_read_items [.str (partT i)] st = .ok i.enc st := by
  have hs := split_go (x := partT i) (y := " ") (st := st) (by rw [sp_len]; decide) (by have := part_len h; omega)
  rw [part_split h, Ins.strs_eq, List.map_cons] at hs
  have e := nums_comp (ρ := [some (.str (partT i)), some (.lst (.str i.name :: (i.nums.map dg).map D.str)), none]) (by simp) st i.nums (Ins.nums_ok h)
  have hl : i.nums.length + 1 ≤ LIM := by
    have := nums_len i
    show _ ≤ 1000000
    omega
  have hl2 : 1 + i.nums.length ≤ LIM := by omega
  simp [m_read_items, g_read_items, hs, e, Ins.enc_eq, hl, hl2, -List.map_map]
theorem reads_comp {ρ : DL.Env} (hv : 2 < ρ.length) (st : Sto) : ∀ c : List Ins, (∀ i ∈ c, i.ok) → compGo ρ (.nm 2) gYes (gCall m_read_items (aCons (gVar 2) aNil)) ((c.map partT).map D.str) st = .ok (c.map Ins.enc) st
  | [], _ => rfl
  | i :: c, h => by
    have ih := reads_comp hv st c fun x hx => h x (List.mem_cons_of_mem _ hx)
    have e : ∀ x st, gVar 2 (ρ.set 2 (some x)) st = .ok x st := fun x st => gv (by rw [List.getElem?_set_self hv])
    simp only [List.map_cons]
    simp [k_nm, e, read_items_go (h i List.mem_cons_self), ih, -List.map_map]
theorem read_core_go {c : List Ins} (hc : ∀ i ∈ c, i.ok) (h5 : c.length ≤ 5) (st : Sto) : m_read_core [.str (coreT c)] st = .ok (encC c) st := by
  by_cases hn : c = []
  · subst hn
    simp [m_read_core, g_read_core, coreT, encC]
  · have hq : (lineT c == ("-" : Str)) = false := by
      have := (line_ne hn).2
      rw [beqS, decide_eq_false this]
    have hs := split_go (x := lineT c) (y := "; ") (st := st) (by rw [sc_len]; decide) (by have := line_len hc h5; omega)
    rw [line_split hc hn] at hs
    have e := reads_comp (ρ := [some (.str (lineT c)), none, none]) (by simp) st c hc
    have hi := is_core_go hc h5 st
    simp only [encC] at hi
    simp [m_read_core, g_read_core, coreT_ne hn, encC, okStr (line_ok hc), hq, hs, e, hi, -List.map_map]
abbrev bodyR : G Fl := (sSeq (sSet 5 (gCall m_read_core (aCons (gVar 4) aNil))) (sSeq (sIf (gTOr (gBl (gOp mIs (gVar 5) (gC .non))) (gTOr (gBl (gOp mGt (gCB mLen (aCons (gVar 5) aNil)) (gVar 2))) (gBl (gOp mEq (gVar 3) (gC (.int 3)))))) sBad sNext) (sSeq (sSet 1 (gOp mAdd (gVar 1) (gTupD (aCons (gVar 5) aNil)))) (sAug mISub 2 (gCB mLen (aCons (gVar 5) aNil))))))
theorem read_loop (v : D) (st : Sto) : ∀ (p p0 : List (List Ins)) (k : Nat) (L : Int) (x y z : Option D), (∀ c ∈ p, ∀ i ∈ c, i.ok) → (∀ c ∈ p, c.length ≤ 5) → ((p.map List.length).sum : Nat) ≤ L → k + p.length ≤ 3 → p0.length ≤ 10 - p.length →
    ∃ L' x' y' z', forGo (.tp [.nm 3, .nm 4]) bodyR (enumD k ((p.map coreT).map D.str)) [some v, some (encP p0), some (.int L), x, y, z] st = .ok (.nx [some v, some (encP (p0 ++ p)), some (.int L'), x', y', z']) st
  | [], p0, k, L, x, y, z, _, _, _, _, _ => ⟨L, x, y, z, by simp [enumD, forGo]⟩
  | c :: p, p0, k, L, x, y, z, h1, h2, h3, h4, h5 => by
    simp only [List.map_cons, List.sum_cons, List.length_cons] at h3 h4 h5
    obtain ⟨L', x', y', z', e⟩ := read_loop v st p (p0 ++ [c]) (k + 1) (L - c.length) (some (.int (k : Int))) (some (.str (coreT c))) (some (encC c)) (fun d hd => h1 d (List.mem_cons_of_mem _ hd)) (fun d hd => h2 d (List.mem_cons_of_mem _ hd)) (by omega) (by omega) (by simp; omega)
    refine ⟨L', x', y', z', ?_⟩
    have hc := read_core_go (h1 c List.mem_cons_self) (h2 c List.mem_cons_self) st
    have hg : ¬ L < c.length := by omega
    have hk : ((k : Int) == 3) = false := by
      rw [beq_eq_false_iff_ne]; omega
    have hl : mLen [encC c] st = some (.int (c.length : Int)) := by simp [encC]
    have hi : mIs (encC c) .non st = some (.bl false) := rfl
    have hz : p0.length + 1 ≤ LIM := by show _ ≤ 1000000; omega
    have eP : encP (p0 ++ [c]) = .tup (p0.map encC ++ [encC c]) := by simp [encP]
    rw [eP] at e
    have e4 : p0 ++ [c] ++ p = p0 ++ c :: p := by simp
    rw [e4] at e
    simp only [encP] at e ⊢
    simp only [List.map_cons]
    simp only [List.map_append, List.map_cons] at e
    simp [enumD, forGo, Pat.set, Pats.set, hc, hl, hi, hg, hk, hz, e, -List.map_map]
theorem read_program_go {p : List (List Ins)} (h : POk p) (st : Sto) : m_read_program [.str (progT p)] st = .ok (encP p) st := by
  obtain ⟨L', x', y', z', e⟩ := read_loop (.str (progT p)) st p [] 0 10 none none none h.ins h.c5 (by have := h.all; omega) (by have := h.n3; omega) (by have := h.n3; simp)
  have hs := split_go (x := progT p) (y := "\n") (st := st) (by rw [nl_len]; decide) (by have := prog_len h; omega)
  rw [prog_split h] at hs
  simp only [encP, List.map_nil, List.nil_append] at e
  simp [m_read_program, g_read_program, m_check_text, g_check_text, isiB, hs, e, encP, -List.map_map]
--DESIGN
theorem read_design_go {sub : List Str} (h : sub.Sublist words8) (st : Sto) : m_read_design [.str (desT sub)] st = .ok (.tup (sub.map D.str)) st := by
  by_cases hn : sub = []
  · subst hn
    have e1 := is_design_go h st
    simp only [List.map_nil] at e1
    simp [m_read_design, g_read_design, m_check_text, g_check_text, isiB, desT, e1]
  · have hq : (Txt.join " " sub == ("-" : Str)) = false := by rw [beqS, decide_eq_false (des_ne h hn)]
    have hs := split_go (x := Txt.join " " sub) (y := " ") (st := st) (by rw [sp_len]; decide) (by have := des_len h; omega)
    rw [des_split h hn] at hs
    have e1 := is_design_go h st
    simp [m_read_design, g_read_design, m_check_text, g_check_text, isiB, desT, hn, okStr (des_strOk h), hq, hs, e1]
end K10

set_option Elab.async false
set_option linter.all false
set_option maxRecDepth 100000
set_option maxHeartbeats 4000000
namespace K10
open PySem PySem.Spec L2 DL CM
open PyProof.Rows hiding St
abbrev bodyL : G Fl := (sSeq (sSet 6 (gM1 mJoin (gC (.str "; ")) (gComp [8] (gSeq (gVar 5)) (.nm 8) gYes (gM1 mJoin (gC (.str " ")) (gComp [9] (gSeq (gVar 8)) (.nm 9) gYes (gCB mStr (aCons (gVar 9) aNil))))))) (sDrop (gAppend (gVar 4) (gIf (gBl (gOp mNe (gVar 6) (gC (.str "")))) (gVar 6) (gC (.str "-"))))))
theorem law_loop (a b c d : Option D) (r : SO) : ∀ (p : List (List Ins)) (L : List D) (x y z u v : Option D), (∀ c ∈ p, ∀ i ∈ c, i.ok) → (∀ c ∈ p, c.length ≤ 5) → L.length + p.length ≤ 100 →
    ∃ x' y', forGo (.nm 5) bodyL (p.map encC) [a, b, c, d, some (.ref 1), x, y, z, u, v] [r, .lst L] = .ok (.nx [a, b, c, d, some (.ref 1), x', y', z, u, v]) [r, .lst (L ++ (p.map coreT).map D.str)]
  | [], L, x, y, z, u, v, _, _, _ => ⟨x, y, by simp [forGo]⟩
  | q :: p, L, x, y, z, u, v, h1, h2, h3 => by
    simp only [List.length_cons] at h3
    obtain ⟨x', y', e⟩ := law_loop a b c d r p (L ++ [.str (coreT q)]) (some (encC q)) (some (.str (lineT q))) z u v (fun d hd => h1 d (List.mem_cons_of_mem _ hd)) (fun d hd => h2 d (List.mem_cons_of_mem _ hd)) (by simp; omega)
    refine ⟨x', y', ?_⟩
    have hq := h1 q List.mem_cons_self
    have h5 := h2 q List.mem_cons_self
    have e2 := parts_comp (ρ := [a, b, c, d, some (.ref 1), some (encC q), y, z, none, v]) (u := 8) (v := 9) (by simp) (by simp) (by decide) [r, .lst L] q hq
    have hj := join_line hq h5 [r, .lst L]
    have h1' : ([r, SO.lst L] : Sto)[1]? = some (.lst L) := rfl
    have hL : L.length < LIM := by show _ < 1000000; omega
    have hk : okD (.str (lineT q)) = true := okStr (line_ok hq)
    by_cases hn : q = []
    · subst hn
      simp only [line_nil, List.map_nil] at hj e2 e
      simp only [List.map_cons]
      simp [forGo, Pat.set, encC, e2, hj, app_1 h1', app_2 h1' hL, -List.map_map]
      simp only [coreT_nil, encC, List.map_nil] at e ⊢
      simp [e, -List.map_map]
    · have hne : (lineT q == ("" : Str)) = false := by rw [beqS, decide_eq_false (line_ne hn).1]
      simp only [List.map_cons]
      rw [coreT_ne hn] at e ⊢
      simp only [encC] at e e2 ⊢
      simp [forGo, Pat.set, e2, hj, hk, hne, app_1 h1', app_2 h1' hL, e, -List.map_map]
theorem all_le {α : Type} {l : List α} {f : α → D} {n : Nat} (h : ∀ x ∈ l, alk n (f x) = true) : (l.map f).all (alk n) = true := by
  rw [List.all_map, List.all_eq_true]
  exact h
theorem alk_ins (i : Ins) : alk 3 i.enc = true := by cases i <;> simp [Ins.enc, alk, strOk_lit]
theorem alk_prog {p : List (List Ins)} (h : POk p) : alk 5 (encP p) = true := by
  simp only [encP, alk, Bool.and_eq_true, decide_eq_true_eq]
  refine ⟨all_le fun c hc => ?_, by have := h.n3; simp; omega⟩
  simp only [encC, alk, Bool.and_eq_true, decide_eq_true_eq]
  exact ⟨all_le fun i _ => alk_ins i, by have := h.c5 c hc; simp; omega⟩
theorem alk_des {sub : List Str} (h : sub.Sublist words8) : alk 5 (.tup (sub.map D.str)) = true := by
  simp only [alk, Bool.and_eq_true, decide_eq_true_eq]
  refine ⟨all_le fun s hs => words_ok s (h.subset hs), by have := h.length_le; simp at this ⊢; omega⟩
theorem alk_str {x : Str} (h : PyData.strOk x = true) : alk 5 (.str x) = true := h
theorem desT_ok {sub : List Str} (h : sub.Sublist words8) : PyData.strOk (desT sub) = true := by
  unfold desT
  split
  · exact strOk_lit _
  · exact des_strOk h
theorem law_go (ns : List Int) : ∃ st, m_law [.ro (ns.map D.int)] [] = .ok (.bl true) st := by
  have hS : Scr ns (.ro (ns.map D.int)) := scr_of (.inl rfl)
  have hr0 : HasRow 0 (.ro (ns.map D.int)) [rowS (.ro (ns.map D.int)) 0 14250 0] := ⟨0, 14250, 0, rfl, by decide⟩
  obtain ⟨p, s1, e1, hp, r1, hr1⟩ := program_go hS 10 (by decide) hr0
  obtain ⟨sub, s2, e2, hs, r2, hr2⟩ := design_go hS hr1
  have e1 : m__law_program [.ref 0, .int 10] [.lst [.ro (ns.map D.int), .int 0, .int 14250, .int 0]] = .ok (encP p) s1 := e1
  have ok := hp.ok (by decide)
  obtain ⟨P, Q, C, e3, _⟩ := Row.trans hS r1 r2
  have e3 : s2 = [rowS (.ro (ns.map D.int)) P Q C] := e3
  subst e3
  generalize rowS (.ro (ns.map D.int)) P Q C = r at *
  obtain ⟨x', y', e4⟩ := law_loop (some (.ro (ns.map D.int))) (some (.ref 0)) (some (encP p)) (some (.tup (sub.map D.str))) r p [] none none none none none ok.ins ok.c5 (by have := ok.n3; simp; omega)
  simp only [List.nil_append] at e4
  refine ⟨[r, .lst ((p.map coreT).map D.str)], ?_⟩
  have hj : mJoin (.str "
") [.ref 1] [r, .lst ((p.map coreT).map D.str)] = some (.str (progT p)) := join_prog ok []
  generalize [r, SO.lst ((p.map coreT).map D.str)] = S at e4 hj ⊢
  have w1 := write_program_go ok S
  have w2 := read_program_go ok S
  have w3 := write_design_go hs S
  have w4 := read_design_go hs S
  have a1 := alike_refl 5 _ S (alk_str (prog_ok ok))
  have a2 := alike_refl 5 _ S (alk_prog ok)
  have a3 := alike_refl 5 _ S (alk_str (desT_ok hs))
  have a4 := alike_refl 5 _ S (alk_des hs)
  have d1 : mNe (.tup (sub.map D.str)) (.tup []) S = some (.bl (!decide (sub = []))) := by
    have := qs_strs sub []
    simp only [List.map_nil] at this
    simp [des_ok hs, this, -List.all_map]
  have d2 := join_des hs S
  have q0 : ∀ st, mSeq (encP p) st = some (p.map encC) := fun _ => rfl
  by_cases hn : sub = []
  · subst hn
    simp only [List.map_nil] at d1 w3 w4 a4 e2 e4
    have t0 : desT [] = "-" := rfl
    rw [t0] at w3 w4 a3
    simp [m_law, g_law, e1, e2, q0, e4, hj, w1, w2, w3, w4, a1, a2, a3, a4, d1, -o_ne]
  · have t0 : desT sub = Txt.join " " sub := if_neg hn
    rw [t0] at w3 w4 a3
    simp [m_law, g_law, e1, e2, q0, e4, hj, w1, w2, w3, w4, a1, a2, a3, a4, d1, hn, d2, -o_ne]
end K10

set_option Elab.async false
set_option linter.all false
set_option maxRecDepth 100000
set_option maxHeartbeats 2000000
namespace K10
open PySem PySem.Spec L2 DL
open PyProof.Rows hiding St
theorem all_mk {P : Program} {w : World} {K : PySem.W.Frag} {h : Heap} {mg : Str → Option Value} {fa : Addr} (X : K.In h) (G : h.Ns mainGlobals mg) (hfa : mg "law" = some (.ref fa))
    {f__law_alike : Addr} {od__law_alike an__law_alike : Option Addr} {sl__law_alike : Array (Option Value)} {oc__law_alike kV__law_alike dc__law_alike pm__law_alike cd__law_alike ct__law_alike : Value}
    (a__law_alike : PySem.W.nsIn K mainGlobals "_law_alike" = some (some (.ref f__law_alike))) (l__law_alike : K.lookup f__law_alike = some ⟨oc__law_alike, od__law_alike, .func (PySem.W.fnOf "_law_alike" "_law_alike" (defArgs s__law_alike) (defBody s__law_alike) (defScope s__law_alike) .none kV__law_alike dc__law_alike pm__law_alike an__law_alike cd__law_alike ct__law_alike), sl__law_alike⟩) (w__law_alike : PySem.W.codeIn K cd__law_alike "_law_alike" = true) (k__law_alike : PySem.W.keepIn K (.ref f__law_alike) = true)
    {f__law_taken : Addr} {od__law_taken an__law_taken : Option Addr} {sl__law_taken : Array (Option Value)} {oc__law_taken kV__law_taken dc__law_taken pm__law_taken cd__law_taken ct__law_taken : Value}
    (a__law_taken : PySem.W.nsIn K mainGlobals "_law_taken" = some (some (.ref f__law_taken))) (l__law_taken : K.lookup f__law_taken = some ⟨oc__law_taken, od__law_taken, .func (PySem.W.fnOf "_law_taken" "_law_taken" (defArgs s__law_taken) (defBody s__law_taken) (defScope s__law_taken) .none kV__law_taken dc__law_taken pm__law_taken an__law_taken cd__law_taken ct__law_taken), sl__law_taken⟩) (w__law_taken : PySem.W.codeIn K cd__law_taken "_law_taken" = true) (k__law_taken : PySem.W.keepIn K (.ref f__law_taken) = true)
    {f__law_design : Addr} {od__law_design an__law_design : Option Addr} {sl__law_design : Array (Option Value)} {oc__law_design kV__law_design dc__law_design pm__law_design cd__law_design ct__law_design : Value}
    (a__law_design : PySem.W.nsIn K mainGlobals "_law_design" = some (some (.ref f__law_design))) (l__law_design : K.lookup f__law_design = some ⟨oc__law_design, od__law_design, .func (PySem.W.fnOf "_law_design" "_law_design" (defArgs s__law_design) (defBody s__law_design) (defScope s__law_design) .none kV__law_design dc__law_design pm__law_design an__law_design cd__law_design ct__law_design), sl__law_design⟩) (w__law_design : PySem.W.codeIn K cd__law_design "_law_design" = true) (k__law_design : PySem.W.keepIn K (.ref f__law_design) = true)
    {f__law_pick : Addr} {od__law_pick an__law_pick : Option Addr} {sl__law_pick : Array (Option Value)} {oc__law_pick kV__law_pick dc__law_pick pm__law_pick cd__law_pick ct__law_pick : Value}
    (a__law_pick : PySem.W.nsIn K mainGlobals "_law_pick" = some (some (.ref f__law_pick))) (l__law_pick : K.lookup f__law_pick = some ⟨oc__law_pick, od__law_pick, .func (PySem.W.fnOf "_law_pick" "_law_pick" (defArgs s__law_pick) (defBody s__law_pick) (defScope s__law_pick) .none kV__law_pick dc__law_pick pm__law_pick an__law_pick cd__law_pick ct__law_pick), sl__law_pick⟩) (w__law_pick : PySem.W.codeIn K cd__law_pick "_law_pick" = true) (k__law_pick : PySem.W.keepIn K (.ref f__law_pick) = true)
    {f__law_instruction : Addr} {od__law_instruction an__law_instruction : Option Addr} {sl__law_instruction : Array (Option Value)} {oc__law_instruction kV__law_instruction dc__law_instruction pm__law_instruction cd__law_instruction ct__law_instruction : Value}
    (a__law_instruction : PySem.W.nsIn K mainGlobals "_law_instruction" = some (some (.ref f__law_instruction))) (l__law_instruction : K.lookup f__law_instruction = some ⟨oc__law_instruction, od__law_instruction, .func (PySem.W.fnOf "_law_instruction" "_law_instruction" (defArgs s__law_instruction) (defBody s__law_instruction) (defScope s__law_instruction) .none kV__law_instruction dc__law_instruction pm__law_instruction an__law_instruction cd__law_instruction ct__law_instruction), sl__law_instruction⟩) (w__law_instruction : PySem.W.codeIn K cd__law_instruction "_law_instruction" = true) (k__law_instruction : PySem.W.keepIn K (.ref f__law_instruction) = true)
    {f__law_program : Addr} {od__law_program an__law_program : Option Addr} {sl__law_program : Array (Option Value)} {oc__law_program kV__law_program dc__law_program pm__law_program cd__law_program ct__law_program : Value}
    (a__law_program : PySem.W.nsIn K mainGlobals "_law_program" = some (some (.ref f__law_program))) (l__law_program : K.lookup f__law_program = some ⟨oc__law_program, od__law_program, .func (PySem.W.fnOf "_law_program" "_law_program" (defArgs s__law_program) (defBody s__law_program) (defScope s__law_program) .none kV__law_program dc__law_program pm__law_program an__law_program cd__law_program ct__law_program), sl__law_program⟩) (w__law_program : PySem.W.codeIn K cd__law_program "_law_program" = true) (k__law_program : PySem.W.keepIn K (.ref f__law_program) = true)
    {f_check_text : Addr} {od_check_text an_check_text : Option Addr} {sl_check_text : Array (Option Value)} {oc_check_text kV_check_text dc_check_text pm_check_text cd_check_text ct_check_text : Value}
    (a_check_text : PySem.W.nsIn K mainGlobals "check_text" = some (some (.ref f_check_text))) (l_check_text : K.lookup f_check_text = some ⟨oc_check_text, od_check_text, .func (PySem.W.fnOf "check_text" "check_text" (defArgs s_check_text) (defBody s_check_text) (defScope s_check_text) .none kV_check_text dc_check_text pm_check_text an_check_text cd_check_text ct_check_text), sl_check_text⟩) (w_check_text : PySem.W.codeIn K cd_check_text "check_text" = true) (k_check_text : PySem.W.keepIn K (.ref f_check_text) = true)
    {f_is_design : Addr} {od_is_design an_is_design : Option Addr} {sl_is_design : Array (Option Value)} {oc_is_design kV_is_design dc_is_design pm_is_design cd_is_design ct_is_design : Value}
    (a_is_design : PySem.W.nsIn K mainGlobals "is_design" = some (some (.ref f_is_design))) (l_is_design : K.lookup f_is_design = some ⟨oc_is_design, od_is_design, .func (PySem.W.fnOf "is_design" "is_design" (defArgs s_is_design) (defBody s_is_design) (defScope s_is_design) .none kV_is_design dc_is_design pm_is_design an_is_design cd_is_design ct_is_design), sl_is_design⟩) (w_is_design : PySem.W.codeIn K cd_is_design "is_design" = true) (k_is_design : PySem.W.keepIn K (.ref f_is_design) = true)
    {f_read_design : Addr} {od_read_design an_read_design : Option Addr} {sl_read_design : Array (Option Value)} {oc_read_design kV_read_design dc_read_design pm_read_design cd_read_design ct_read_design : Value}
    (a_read_design : PySem.W.nsIn K mainGlobals "read_design" = some (some (.ref f_read_design))) (l_read_design : K.lookup f_read_design = some ⟨oc_read_design, od_read_design, .func (PySem.W.fnOf "read_design" "read_design" (defArgs s_read_design) (defBody s_read_design) (defScope s_read_design) .none kV_read_design dc_read_design pm_read_design an_read_design cd_read_design ct_read_design), sl_read_design⟩) (w_read_design : PySem.W.codeIn K cd_read_design "read_design" = true) (k_read_design : PySem.W.keepIn K (.ref f_read_design) = true)
    {f_is_number : Addr} {od_is_number an_is_number : Option Addr} {sl_is_number : Array (Option Value)} {oc_is_number kV_is_number dc_is_number pm_is_number cd_is_number ct_is_number : Value}
    (a_is_number : PySem.W.nsIn K mainGlobals "is_number" = some (some (.ref f_is_number))) (l_is_number : K.lookup f_is_number = some ⟨oc_is_number, od_is_number, .func (PySem.W.fnOf "is_number" "is_number" (defArgs s_is_number) (defBody s_is_number) (defScope s_is_number) .none kV_is_number dc_is_number pm_is_number an_is_number cd_is_number ct_is_number), sl_is_number⟩) (w_is_number : PySem.W.codeIn K cd_is_number "is_number" = true) (k_is_number : PySem.W.keepIn K (.ref f_is_number) = true)
    {f_is_instruction : Addr} {od_is_instruction an_is_instruction : Option Addr} {sl_is_instruction : Array (Option Value)} {oc_is_instruction kV_is_instruction dc_is_instruction pm_is_instruction cd_is_instruction ct_is_instruction : Value}
    (a_is_instruction : PySem.W.nsIn K mainGlobals "is_instruction" = some (some (.ref f_is_instruction))) (l_is_instruction : K.lookup f_is_instruction = some ⟨oc_is_instruction, od_is_instruction, .func (PySem.W.fnOf "is_instruction" "is_instruction" (defArgs s_is_instruction) (defBody s_is_instruction) (defScope s_is_instruction) .none kV_is_instruction dc_is_instruction pm_is_instruction an_is_instruction cd_is_instruction ct_is_instruction), sl_is_instruction⟩) (w_is_instruction : PySem.W.codeIn K cd_is_instruction "is_instruction" = true) (k_is_instruction : PySem.W.keepIn K (.ref f_is_instruction) = true)
    {f_is_core : Addr} {od_is_core an_is_core : Option Addr} {sl_is_core : Array (Option Value)} {oc_is_core kV_is_core dc_is_core pm_is_core cd_is_core ct_is_core : Value}
    (a_is_core : PySem.W.nsIn K mainGlobals "is_core" = some (some (.ref f_is_core))) (l_is_core : K.lookup f_is_core = some ⟨oc_is_core, od_is_core, .func (PySem.W.fnOf "is_core" "is_core" (defArgs s_is_core) (defBody s_is_core) (defScope s_is_core) .none kV_is_core dc_is_core pm_is_core an_is_core cd_is_core ct_is_core), sl_is_core⟩) (w_is_core : PySem.W.codeIn K cd_is_core "is_core" = true) (k_is_core : PySem.W.keepIn K (.ref f_is_core) = true)
    {f_is_numeral : Addr} {od_is_numeral an_is_numeral : Option Addr} {sl_is_numeral : Array (Option Value)} {oc_is_numeral kV_is_numeral dc_is_numeral pm_is_numeral cd_is_numeral ct_is_numeral : Value}
    (a_is_numeral : PySem.W.nsIn K mainGlobals "is_numeral" = some (some (.ref f_is_numeral))) (l_is_numeral : K.lookup f_is_numeral = some ⟨oc_is_numeral, od_is_numeral, .func (PySem.W.fnOf "is_numeral" "is_numeral" (defArgs s_is_numeral) (defBody s_is_numeral) (defScope s_is_numeral) .none kV_is_numeral dc_is_numeral pm_is_numeral an_is_numeral cd_is_numeral ct_is_numeral), sl_is_numeral⟩) (w_is_numeral : PySem.W.codeIn K cd_is_numeral "is_numeral" = true) (k_is_numeral : PySem.W.keepIn K (.ref f_is_numeral) = true)
    {f_read_number : Addr} {od_read_number an_read_number : Option Addr} {sl_read_number : Array (Option Value)} {oc_read_number kV_read_number dc_read_number pm_read_number cd_read_number ct_read_number : Value}
    (a_read_number : PySem.W.nsIn K mainGlobals "read_number" = some (some (.ref f_read_number))) (l_read_number : K.lookup f_read_number = some ⟨oc_read_number, od_read_number, .func (PySem.W.fnOf "read_number" "read_number" (defArgs s_read_number) (defBody s_read_number) (defScope s_read_number) .none kV_read_number dc_read_number pm_read_number an_read_number cd_read_number ct_read_number), sl_read_number⟩) (w_read_number : PySem.W.codeIn K cd_read_number "read_number" = true) (k_read_number : PySem.W.keepIn K (.ref f_read_number) = true)
    {f_read_items : Addr} {od_read_items an_read_items : Option Addr} {sl_read_items : Array (Option Value)} {oc_read_items kV_read_items dc_read_items pm_read_items cd_read_items ct_read_items : Value}
    (a_read_items : PySem.W.nsIn K mainGlobals "read_items" = some (some (.ref f_read_items))) (l_read_items : K.lookup f_read_items = some ⟨oc_read_items, od_read_items, .func (PySem.W.fnOf "read_items" "read_items" (defArgs s_read_items) (defBody s_read_items) (defScope s_read_items) .none kV_read_items dc_read_items pm_read_items an_read_items cd_read_items ct_read_items), sl_read_items⟩) (w_read_items : PySem.W.codeIn K cd_read_items "read_items" = true) (k_read_items : PySem.W.keepIn K (.ref f_read_items) = true)
    {f_read_core : Addr} {od_read_core an_read_core : Option Addr} {sl_read_core : Array (Option Value)} {oc_read_core kV_read_core dc_read_core pm_read_core cd_read_core ct_read_core : Value}
    (a_read_core : PySem.W.nsIn K mainGlobals "read_core" = some (some (.ref f_read_core))) (l_read_core : K.lookup f_read_core = some ⟨oc_read_core, od_read_core, .func (PySem.W.fnOf "read_core" "read_core" (defArgs s_read_core) (defBody s_read_core) (defScope s_read_core) .none kV_read_core dc_read_core pm_read_core an_read_core cd_read_core ct_read_core), sl_read_core⟩) (w_read_core : PySem.W.codeIn K cd_read_core "read_core" = true) (k_read_core : PySem.W.keepIn K (.ref f_read_core) = true)
    {f_read_program : Addr} {od_read_program an_read_program : Option Addr} {sl_read_program : Array (Option Value)} {oc_read_program kV_read_program dc_read_program pm_read_program cd_read_program ct_read_program : Value}
    (a_read_program : PySem.W.nsIn K mainGlobals "read_program" = some (some (.ref f_read_program))) (l_read_program : K.lookup f_read_program = some ⟨oc_read_program, od_read_program, .func (PySem.W.fnOf "read_program" "read_program" (defArgs s_read_program) (defBody s_read_program) (defScope s_read_program) .none kV_read_program dc_read_program pm_read_program an_read_program cd_read_program ct_read_program), sl_read_program⟩) (w_read_program : PySem.W.codeIn K cd_read_program "read_program" = true) (k_read_program : PySem.W.keepIn K (.ref f_read_program) = true)
    {f_check_design : Addr} {od_check_design an_check_design : Option Addr} {sl_check_design : Array (Option Value)} {oc_check_design kV_check_design dc_check_design pm_check_design cd_check_design ct_check_design : Value}
    (a_check_design : PySem.W.nsIn K mainGlobals "check_design" = some (some (.ref f_check_design))) (l_check_design : K.lookup f_check_design = some ⟨oc_check_design, od_check_design, .func (PySem.W.fnOf "check_design" "check_design" (defArgs s_check_design) (defBody s_check_design) (defScope s_check_design) .none kV_check_design dc_check_design pm_check_design an_check_design cd_check_design ct_check_design), sl_check_design⟩) (w_check_design : PySem.W.codeIn K cd_check_design "check_design" = true) (k_check_design : PySem.W.keepIn K (.ref f_check_design) = true)
    {f_write_design : Addr} {od_write_design an_write_design : Option Addr} {sl_write_design : Array (Option Value)} {oc_write_design kV_write_design dc_write_design pm_write_design cd_write_design ct_write_design : Value}
    (a_write_design : PySem.W.nsIn K mainGlobals "write_design" = some (some (.ref f_write_design))) (l_write_design : K.lookup f_write_design = some ⟨oc_write_design, od_write_design, .func (PySem.W.fnOf "write_design" "write_design" (defArgs s_write_design) (defBody s_write_design) (defScope s_write_design) .none kV_write_design dc_write_design pm_write_design an_write_design cd_write_design ct_write_design), sl_write_design⟩) (w_write_design : PySem.W.codeIn K cd_write_design "write_design" = true) (k_write_design : PySem.W.keepIn K (.ref f_write_design) = true)
    {f_check_program : Addr} {od_check_program an_check_program : Option Addr} {sl_check_program : Array (Option Value)} {oc_check_program kV_check_program dc_check_program pm_check_program cd_check_program ct_check_program : Value}
    (a_check_program : PySem.W.nsIn K mainGlobals "check_program" = some (some (.ref f_check_program))) (l_check_program : K.lookup f_check_program = some ⟨oc_check_program, od_check_program, .func (PySem.W.fnOf "check_program" "check_program" (defArgs s_check_program) (defBody s_check_program) (defScope s_check_program) .none kV_check_program dc_check_program pm_check_program an_check_program cd_check_program ct_check_program), sl_check_program⟩) (w_check_program : PySem.W.codeIn K cd_check_program "check_program" = true) (k_check_program : PySem.W.keepIn K (.ref f_check_program) = true)
    {f_write_core : Addr} {od_write_core an_write_core : Option Addr} {sl_write_core : Array (Option Value)} {oc_write_core kV_write_core dc_write_core pm_write_core cd_write_core ct_write_core : Value}
    (a_write_core : PySem.W.nsIn K mainGlobals "write_core" = some (some (.ref f_write_core))) (l_write_core : K.lookup f_write_core = some ⟨oc_write_core, od_write_core, .func (PySem.W.fnOf "write_core" "write_core" (defArgs s_write_core) (defBody s_write_core) (defScope s_write_core) .none kV_write_core dc_write_core pm_write_core an_write_core cd_write_core ct_write_core), sl_write_core⟩) (w_write_core : PySem.W.codeIn K cd_write_core "write_core" = true) (k_write_core : PySem.W.keepIn K (.ref f_write_core) = true)
    {f_write_program : Addr} {od_write_program an_write_program : Option Addr} {sl_write_program : Array (Option Value)} {oc_write_program kV_write_program dc_write_program pm_write_program cd_write_program ct_write_program : Value}
    (a_write_program : PySem.W.nsIn K mainGlobals "write_program" = some (some (.ref f_write_program))) (l_write_program : K.lookup f_write_program = some ⟨oc_write_program, od_write_program, .func (PySem.W.fnOf "write_program" "write_program" (defArgs s_write_program) (defBody s_write_program) (defScope s_write_program) .none kV_write_program dc_write_program pm_write_program an_write_program cd_write_program ct_write_program), sl_write_program⟩) (w_write_program : PySem.W.codeIn K cd_write_program "write_program" = true) (k_write_program : PySem.W.keepIn K (.ref f_write_program) = true)
    {f_law : Addr} {od_law an_law : Option Addr} {sl_law : Array (Option Value)} {oc_law kV_law dc_law pm_law cd_law ct_law : Value}
    (a_law : PySem.W.nsIn K mainGlobals "law" = some (some (.ref f_law))) (l_law : K.lookup f_law = some ⟨oc_law, od_law, .func (PySem.W.fnOf "law" "law" (defArgs s_law) (defBody s_law) (defScope s_law) .none kV_law dc_law pm_law an_law cd_law ct_law), sl_law⟩) (w_law : PySem.W.codeIn K cd_law "law" = true) (k_law : PySem.W.keepIn K (.ref f_law) = true)
    (z_all : PySem.W.nsIn K mainGlobals "all" = some none)
    (z_bool : PySem.W.nsIn K mainGlobals "bool" = some none)
    (z_enumerate : PySem.W.nsIn K mainGlobals "enumerate" = some none)
    (z_int : PySem.W.nsIn K mainGlobals "int" = some none)
    (z_isinstance : PySem.W.nsIn K mainGlobals "isinstance" = some none)
    (z_len : PySem.W.nsIn K mainGlobals "len" = some none)
    (z_list : PySem.W.nsIn K mainGlobals "list" = some none)
    (z_min : PySem.W.nsIn K mainGlobals "min" = some none)
    (z_range : PySem.W.nsIn K mainGlobals "range" = some none)
    (z_str : PySem.W.nsIn K mainGlobals "str" = some none)
    (z_tuple : PySem.W.nsIn K mainGlobals "tuple" = some none)
    (z_zip : PySem.W.nsIn K mainGlobals "zip" = some none)
    {f_WORDS : Addr} (a_WORDS : PySem.W.nsIn K mainGlobals "WORDS" = some (some (.ref f_WORDS))) (r_WORDS : ∀ β H, Rep K β H (.ref f_WORDS) c_WORDS)
    {f_GREATEST : Addr} {e_GREATEST : Array DictEntry} {y_GREATEST : Nat} (a_GREATEST : PySem.W.nsIn K mainGlobals "GREATEST" = some (some (.ref f_GREATEST))) (l_GREATEST : K.lookup f_GREATEST = some ⟨.type "dict", none, .dict e_GREATEST y_GREATEST, #[]⟩) (i_GREATEST : PySem.W.KeysLit w.params e_GREATEST.toList) (j_GREATEST : (f_GREATEST == sysModules) = false) (t_GREATEST : TabAt K e_GREATEST.toList t_GREATEST)
    {u_MOST_CORES : Value} (a_MOST_CORES : PySem.W.nsIn K mainGlobals "MOST_CORES" = some (some u_MOST_CORES)) (r_MOST_CORES : RelV (.int 3) u_MOST_CORES)
    {u_MOST_IN_CORE : Value} (a_MOST_IN_CORE : PySem.W.nsIn K mainGlobals "MOST_IN_CORE" = some (some u_MOST_IN_CORE)) (r_MOST_IN_CORE : RelV (.int 5) u_MOST_IN_CORE)
    {u_MOST_IN_ALL : Value} (a_MOST_IN_ALL : PySem.W.nsIn K mainGlobals "MOST_IN_ALL" = some (some u_MOST_IN_ALL)) (r_MOST_IN_ALL : RelV (.int 10) u_MOST_IN_ALL)
    {u_NONE_THERE : Value} (a_NONE_THERE : PySem.W.nsIn K mainGlobals "NONE_THERE" = some (some u_NONE_THERE)) (r_NONE_THERE : RelV (.str "-") u_NONE_THERE) :
    ∃ fd : FuncData, (∀ (s : Shared) (v : Value), BindsTo s fd ⟨[v], []⟩ [("script", v)]) ∧ ∀ base : Heap, K.In base → base.Ns mainGlobals mg → FnOk P w K mg base (L2.CX P w) 7 fa fd ["script"] (spL K m_law) := by
  have e : f_law = fa := by
    have e := hfa.symm.trans (PySem.W.mg_of X G a_law)
    cases e
    rfl
  subst e
  let T : Txt K w mg := {
    a__law_alike := f__law_alike, d__law_alike := _, F__law_alike := fun_mk (st := s__law_alike) l__law_alike w__law_alike k__law_alike, b__law_alike := (fun_mk (st := s__law_alike) l__law_alike w__law_alike k__law_alike).binds (ps := ["found", "due"]) fun _ _ _ _ _ _ us hl => match us, hl with | [_, _], _ => rfl, g__law_alike := PySem.W.mg_of X G a__law_alike,
    a__law_taken := f__law_taken, d__law_taken := _, F__law_taken := fun_mk (st := s__law_taken) l__law_taken w__law_taken k__law_taken, b__law_taken := (fun_mk (st := s__law_taken) l__law_taken w__law_taken k__law_taken).binds (ps := ["row", "many"]) fun _ _ _ _ _ _ us hl => match us, hl with | [_, _], _ => rfl, g__law_taken := PySem.W.mg_of X G a__law_taken,
    a__law_design := f__law_design, d__law_design := _, F__law_design := fun_mk (st := s__law_design) l__law_design w__law_design k__law_design, b__law_design := (fun_mk (st := s__law_design) l__law_design w__law_design k__law_design).binds (ps := ["row"]) fun _ _ _ _ _ _ us hl => match us, hl with | [_], _ => rfl, g__law_design := PySem.W.mg_of X G a__law_design,
    a__law_pick := f__law_pick, d__law_pick := _, F__law_pick := fun_mk (st := s__law_pick) l__law_pick w__law_pick k__law_pick, b__law_pick := (fun_mk (st := s__law_pick) l__law_pick w__law_pick k__law_pick).binds (ps := ["row", "kinds"]) fun _ _ _ _ _ _ us hl => match us, hl with | [_, _], _ => rfl, g__law_pick := PySem.W.mg_of X G a__law_pick,
    a__law_instruction := f__law_instruction, d__law_instruction := _, F__law_instruction := fun_mk (st := s__law_instruction) l__law_instruction w__law_instruction k__law_instruction, b__law_instruction := (fun_mk (st := s__law_instruction) l__law_instruction w__law_instruction k__law_instruction).binds (ps := ["row"]) fun _ _ _ _ _ _ us hl => match us, hl with | [_], _ => rfl, g__law_instruction := PySem.W.mg_of X G a__law_instruction,
    a__law_program := f__law_program, d__law_program := _, F__law_program := fun_mk (st := s__law_program) l__law_program w__law_program k__law_program, b__law_program := (fun_mk (st := s__law_program) l__law_program w__law_program k__law_program).binds (ps := ["row", "most"]) fun _ _ _ _ _ _ us hl => match us, hl with | [_, _], _ => rfl, g__law_program := PySem.W.mg_of X G a__law_program,
    a_check_text := f_check_text, d_check_text := _, F_check_text := fun_mk (st := s_check_text) l_check_text w_check_text k_check_text, b_check_text := (fun_mk (st := s_check_text) l_check_text w_check_text k_check_text).binds (ps := ["value"]) fun _ _ _ _ _ _ us hl => match us, hl with | [_], _ => rfl, g_check_text := PySem.W.mg_of X G a_check_text,
    a_is_design := f_is_design, d_is_design := _, F_is_design := fun_mk (st := s_is_design) l_is_design w_is_design k_is_design, b_is_design := (fun_mk (st := s_is_design) l_is_design w_is_design k_is_design).binds (ps := ["value"]) fun _ _ _ _ _ _ us hl => match us, hl with | [_], _ => rfl, g_is_design := PySem.W.mg_of X G a_is_design,
    a_read_design := f_read_design, d_read_design := _, F_read_design := fun_mk (st := s_read_design) l_read_design w_read_design k_read_design, b_read_design := (fun_mk (st := s_read_design) l_read_design w_read_design k_read_design).binds (ps := ["text"]) fun _ _ _ _ _ _ us hl => match us, hl with | [_], _ => rfl, g_read_design := PySem.W.mg_of X G a_read_design,
    a_is_number := f_is_number, d_is_number := _, F_is_number := fun_mk (st := s_is_number) l_is_number w_is_number k_is_number, b_is_number := (fun_mk (st := s_is_number) l_is_number w_is_number k_is_number).binds (ps := ["value", "greatest"]) fun _ _ _ _ _ _ us hl => match us, hl with | [_, _], _ => rfl, g_is_number := PySem.W.mg_of X G a_is_number,
    a_is_instruction := f_is_instruction, d_is_instruction := _, F_is_instruction := fun_mk (st := s_is_instruction) l_is_instruction w_is_instruction k_is_instruction, b_is_instruction := (fun_mk (st := s_is_instruction) l_is_instruction w_is_instruction k_is_instruction).binds (ps := ["value"]) fun _ _ _ _ _ _ us hl => match us, hl with | [_], _ => rfl, g_is_instruction := PySem.W.mg_of X G a_is_instruction,
    a_is_core := f_is_core, d_is_core := _, F_is_core := fun_mk (st := s_is_core) l_is_core w_is_core k_is_core, b_is_core := (fun_mk (st := s_is_core) l_is_core w_is_core k_is_core).binds (ps := ["value"]) fun _ _ _ _ _ _ us hl => match us, hl with | [_], _ => rfl, g_is_core := PySem.W.mg_of X G a_is_core,
    a_is_numeral := f_is_numeral, d_is_numeral := _, F_is_numeral := fun_mk (st := s_is_numeral) l_is_numeral w_is_numeral k_is_numeral, b_is_numeral := (fun_mk (st := s_is_numeral) l_is_numeral w_is_numeral k_is_numeral).binds (ps := ["word"]) fun _ _ _ _ _ _ us hl => match us, hl with | [_], _ => rfl, g_is_numeral := PySem.W.mg_of X G a_is_numeral,
    a_read_number := f_read_number, d_read_number := _, F_read_number := fun_mk (st := s_read_number) l_read_number w_read_number k_read_number, b_read_number := (fun_mk (st := s_read_number) l_read_number w_read_number k_read_number).binds (ps := ["word"]) fun _ _ _ _ _ _ us hl => match us, hl with | [_], _ => rfl, g_read_number := PySem.W.mg_of X G a_read_number,
    a_read_items := f_read_items, d_read_items := _, F_read_items := fun_mk (st := s_read_items) l_read_items w_read_items k_read_items, b_read_items := (fun_mk (st := s_read_items) l_read_items w_read_items k_read_items).binds (ps := ["part"]) fun _ _ _ _ _ _ us hl => match us, hl with | [_], _ => rfl, g_read_items := PySem.W.mg_of X G a_read_items,
    a_read_core := f_read_core, d_read_core := _, F_read_core := fun_mk (st := s_read_core) l_read_core w_read_core k_read_core, b_read_core := (fun_mk (st := s_read_core) l_read_core w_read_core k_read_core).binds (ps := ["line"]) fun _ _ _ _ _ _ us hl => match us, hl with | [_], _ => rfl, g_read_core := PySem.W.mg_of X G a_read_core,
    a_read_program := f_read_program, d_read_program := _, F_read_program := fun_mk (st := s_read_program) l_read_program w_read_program k_read_program, b_read_program := (fun_mk (st := s_read_program) l_read_program w_read_program k_read_program).binds (ps := ["text"]) fun _ _ _ _ _ _ us hl => match us, hl with | [_], _ => rfl, g_read_program := PySem.W.mg_of X G a_read_program,
    a_check_design := f_check_design, d_check_design := _, F_check_design := fun_mk (st := s_check_design) l_check_design w_check_design k_check_design, b_check_design := (fun_mk (st := s_check_design) l_check_design w_check_design k_check_design).binds (ps := ["value"]) fun _ _ _ _ _ _ us hl => match us, hl with | [_], _ => rfl, g_check_design := PySem.W.mg_of X G a_check_design,
    a_write_design := f_write_design, d_write_design := _, F_write_design := fun_mk (st := s_write_design) l_write_design w_write_design k_write_design, b_write_design := (fun_mk (st := s_write_design) l_write_design w_write_design k_write_design).binds (ps := ["design"]) fun _ _ _ _ _ _ us hl => match us, hl with | [_], _ => rfl, g_write_design := PySem.W.mg_of X G a_write_design,
    a_check_program := f_check_program, d_check_program := _, F_check_program := fun_mk (st := s_check_program) l_check_program w_check_program k_check_program, b_check_program := (fun_mk (st := s_check_program) l_check_program w_check_program k_check_program).binds (ps := ["value"]) fun _ _ _ _ _ _ us hl => match us, hl with | [_], _ => rfl, g_check_program := PySem.W.mg_of X G a_check_program,
    a_write_core := f_write_core, d_write_core := _, F_write_core := fun_mk (st := s_write_core) l_write_core w_write_core k_write_core, b_write_core := (fun_mk (st := s_write_core) l_write_core w_write_core k_write_core).binds (ps := ["core"]) fun _ _ _ _ _ _ us hl => match us, hl with | [_], _ => rfl, g_write_core := PySem.W.mg_of X G a_write_core,
    a_write_program := f_write_program, d_write_program := _, F_write_program := fun_mk (st := s_write_program) l_write_program w_write_program k_write_program, b_write_program := (fun_mk (st := s_write_program) l_write_program w_write_program k_write_program).binds (ps := ["program"]) fun _ _ _ _ _ _ us hl => match us, hl with | [_], _ => rfl, g_write_program := PySem.W.mg_of X G a_write_program,
    a_law := f_law, d_law := _, F_law := fun_mk (st := s_law) l_law w_law k_law, b_law := (fun_mk (st := s_law) l_law w_law k_law).binds (ps := ["script"]) fun _ _ _ _ _ _ us hl => match us, hl with | [_], _ => rfl, g_law := PySem.W.mg_of X G a_law,
    n_all := PySem.W.mg_none_of X G z_all,
    n_bool := PySem.W.mg_none_of X G z_bool,
    n_enumerate := PySem.W.mg_none_of X G z_enumerate,
    n_int := PySem.W.mg_none_of X G z_int,
    n_isinstance := PySem.W.mg_none_of X G z_isinstance,
    n_len := PySem.W.mg_none_of X G z_len,
    n_list := PySem.W.mg_none_of X G z_list,
    n_min := PySem.W.mg_none_of X G z_min,
    n_range := PySem.W.mg_none_of X G z_range,
    n_str := PySem.W.mg_none_of X G z_str,
    n_tuple := PySem.W.mg_none_of X G z_tuple,
    n_zip := PySem.W.mg_none_of X G z_zip,
    a_WORDS := f_WORDS, c_WORDS := ⟨PySem.W.mg_of X G a_WORDS, r_WORDS⟩,
    u_MOST_CORES := u_MOST_CORES, c_MOST_CORES := ⟨PySem.W.mg_of X G a_MOST_CORES, r_MOST_CORES⟩,
    u_MOST_IN_CORE := u_MOST_IN_CORE, c_MOST_IN_CORE := ⟨PySem.W.mg_of X G a_MOST_IN_CORE, r_MOST_IN_CORE⟩,
    u_MOST_IN_ALL := u_MOST_IN_ALL, c_MOST_IN_ALL := ⟨PySem.W.mg_of X G a_MOST_IN_ALL, r_MOST_IN_ALL⟩,
    u_NONE_THERE := u_NONE_THERE, c_NONE_THERE := ⟨PySem.W.mg_of X G a_NONE_THERE, r_NONE_THERE⟩,
    a_GREATEST := f_GREATEST, e_GREATEST := e_GREATEST, z_GREATEST := y_GREATEST, c_GREATEST := PySem.W.mg_of X G a_GREATEST, k_GREATEST := ⟨l_GREATEST, i_GREATEST, j_GREATEST⟩, t_GREATEST := ktab_of l_GREATEST t_GREATEST }
  exact ⟨T.d_law, fun s v => .of_eq rfl, fun base _ _ => FnD.law (ok_law (base := base) T)⟩
end K10
open PySem PySem.W PyProof.Rows
set_option maxHeartbeats 0 in
theorem PySem.Challenge.cw_pairskept_k10_whole_texts_holds : PySem.Challenge.rw_pairskept_k10_whole_texts.Holds := by
  w_on; o_law; k_head; (case hw => w_witness2)
  k_fill
  refine L2.walk_of (l := PySem.Challenge.rw_pairskept_k10_whole_texts) (n := 63) (k := 7) (x := "script") (CX := fun w => L2.CX PySem.Challenge.rw_pairskept_k10_whole_texts.prog w) (sp := fun w => DL.spL _ K10.m_law) rfl (by decide) rfl ⟨rfl, by decide, by decide⟩ (fun w h Y => PySem.W.kIn_of Y) ?F (fun w H a ns hl O hS => DL.spL_of K10.law_go hl O hS) (fun w H s e s' h => DL.cx_no h)
  case F =>
    intro w mg fa h KX G hmg
    refine' K10.all_mk KX G hmg ?a__law_alike ?l__law_alike ?w__law_alike ?k__law_alike ?a__law_taken ?l__law_taken ?w__law_taken ?k__law_taken ?a__law_design ?l__law_design ?w__law_design ?k__law_design ?a__law_pick ?l__law_pick ?w__law_pick ?k__law_pick ?a__law_instruction ?l__law_instruction ?w__law_instruction ?k__law_instruction ?a__law_program ?l__law_program ?w__law_program ?k__law_program ?a_check_text ?l_check_text ?w_check_text ?k_check_text ?a_is_design ?l_is_design ?w_is_design ?k_is_design ?a_read_design ?l_read_design ?w_read_design ?k_read_design ?a_is_number ?l_is_number ?w_is_number ?k_is_number ?a_is_instruction ?l_is_instruction ?w_is_instruction ?k_is_instruction ?a_is_core ?l_is_core ?w_is_core ?k_is_core ?a_is_numeral ?l_is_numeral ?w_is_numeral ?k_is_numeral ?a_read_number ?l_read_number ?w_read_number ?k_read_number ?a_read_items ?l_read_items ?w_read_items ?k_read_items ?a_read_core ?l_read_core ?w_read_core ?k_read_core ?a_read_program ?l_read_program ?w_read_program ?k_read_program ?a_check_design ?l_check_design ?w_check_design ?k_check_design ?a_write_design ?l_write_design ?w_write_design ?k_write_design ?a_check_program ?l_check_program ?w_check_program ?k_check_program ?a_write_core ?l_write_core ?w_write_core ?k_write_core ?a_write_program ?l_write_program ?w_write_program ?k_write_program ?a_law ?l_law ?w_law ?k_law ?z_all ?z_bool ?z_enumerate ?z_int ?z_isinstance ?z_len ?z_list ?z_min ?z_range ?z_str ?z_tuple ?z_zip ?a_WORDS ?r_WORDS ?a_GREATEST ?l_GREATEST ?i_GREATEST ?j_GREATEST ?t_GREATEST ?a_MOST_CORES ?r_MOST_CORES ?a_MOST_IN_CORE ?r_MOST_IN_CORE ?a_MOST_IN_ALL ?r_MOST_IN_ALL ?a_NONE_THERE ?r_NONE_THERE
    (case a__law_alike => k_is)
    (case l__law_alike => k_is)
    (case w__law_alike => k_is)
    (case k__law_alike => k_is)
    (case a__law_taken => k_is)
    (case l__law_taken => k_is)
    (case w__law_taken => k_is)
    (case k__law_taken => k_is)
    (case a__law_design => k_is)
    (case l__law_design => k_is)
    (case w__law_design => k_is)
    (case k__law_design => k_is)
    (case a__law_pick => k_is)
    (case l__law_pick => k_is)
    (case w__law_pick => k_is)
    (case k__law_pick => k_is)
    (case a__law_instruction => k_is)
    (case l__law_instruction => k_is)
    (case w__law_instruction => k_is)
    (case k__law_instruction => k_is)
    (case a__law_program => k_is)
    (case l__law_program => k_is)
    (case w__law_program => k_is)
    (case k__law_program => k_is)
    (case a_check_text => k_is)
    (case l_check_text => k_is)
    (case w_check_text => k_is)
    (case k_check_text => k_is)
    (case a_is_design => k_is)
    (case l_is_design => k_is)
    (case w_is_design => k_is)
    (case k_is_design => k_is)
    (case a_read_design => k_is)
    (case l_read_design => k_is)
    (case w_read_design => k_is)
    (case k_read_design => k_is)
    (case a_is_number => k_is)
    (case l_is_number => k_is)
    (case w_is_number => k_is)
    (case k_is_number => k_is)
    (case a_is_instruction => k_is)
    (case l_is_instruction => k_is)
    (case w_is_instruction => k_is)
    (case k_is_instruction => k_is)
    (case a_is_core => k_is)
    (case l_is_core => k_is)
    (case w_is_core => k_is)
    (case k_is_core => k_is)
    (case a_is_numeral => k_is)
    (case l_is_numeral => k_is)
    (case w_is_numeral => k_is)
    (case k_is_numeral => k_is)
    (case a_read_number => k_is)
    (case l_read_number => k_is)
    (case w_read_number => k_is)
    (case k_read_number => k_is)
    (case a_read_items => k_is)
    (case l_read_items => k_is)
    (case w_read_items => k_is)
    (case k_read_items => k_is)
    (case a_read_core => k_is)
    (case l_read_core => k_is)
    (case w_read_core => k_is)
    (case k_read_core => k_is)
    (case a_read_program => k_is)
    (case l_read_program => k_is)
    (case w_read_program => k_is)
    (case k_read_program => k_is)
    (case a_check_design => k_is)
    (case l_check_design => k_is)
    (case w_check_design => k_is)
    (case k_check_design => k_is)
    (case a_write_design => k_is)
    (case l_write_design => k_is)
    (case w_write_design => k_is)
    (case k_write_design => k_is)
    (case a_check_program => k_is)
    (case l_check_program => k_is)
    (case w_check_program => k_is)
    (case k_check_program => k_is)
    (case a_write_core => k_is)
    (case l_write_core => k_is)
    (case w_write_core => k_is)
    (case k_write_core => k_is)
    (case a_write_program => k_is)
    (case l_write_program => k_is)
    (case w_write_program => k_is)
    (case k_write_program => k_is)
    (case a_law => k_is)
    (case l_law => k_is)
    (case w_law => k_is)
    (case k_law => k_is)
    (case z_all => k_is)
    (case z_bool => k_is)
    (case z_enumerate => k_is)
    (case z_int => k_is)
    (case z_isinstance => k_is)
    (case z_len => k_is)
    (case z_list => k_is)
    (case z_min => k_is)
    (case z_range => k_is)
    (case z_str => k_is)
    (case z_tuple => k_is)
    (case z_zip => k_is)
    (case a_WORDS => k_is)
    (case r_WORDS => exact (DL.rep_ktup (xs := [.str "gr", .str "gw", .str "own", .str "rr", .str "rw", .str "ss", .str "wr", .str "ww"]) (by k_is) (.cons ⟨_, rfl⟩ (.cons ⟨_, rfl⟩ (.cons ⟨_, rfl⟩ (.cons ⟨_, rfl⟩ (.cons ⟨_, rfl⟩ (.cons ⟨_, rfl⟩ (.cons ⟨_, rfl⟩ (.cons ⟨_, rfl⟩ (.nil))))))))) (fun β H => .cons (.str _) (.cons (.str _) (.cons (.str _) (.cons (.str _) (.cons (.str _) (.cons (.str _) (.cons (.str _) (.cons (.str _) (.nil))))))))) (by decide)))
    (case a_GREATEST => k_is)
    (case l_GREATEST => k_is)
    (case i_GREATEST => exact ⟨⟨_, _, rfl, rfl⟩, ⟨_, _, rfl, rfl⟩, ⟨_, _, rfl, rfl⟩, ⟨_, _, rfl, rfl⟩, ⟨_, _, rfl, rfl⟩, trivial⟩)
    (case j_GREATEST => rfl)
    (case t_GREATEST => exact .cons (v := .ref _) rfl (fun β H => (DL.rep_ktup (xs := [.int 1, .int 2]) (by k_is) (.cons ⟨_, rfl⟩ (.cons ⟨_, rfl⟩ (.nil))) (fun β H => .cons (.int _) (.cons (.int _) (.nil))) (by decide)) β H) (.cons (v := .ref _) rfl (fun β H => (DL.rep_ktup (xs := [.int 2, .int 9]) (by k_is) (.cons ⟨_, rfl⟩ (.cons ⟨_, rfl⟩ (.nil))) (fun β H => .cons (.int _) (.cons (.int _) (.nil))) (by decide)) β H) (.cons (v := .ref _) rfl (fun β H => (DL.rep_ktup (xs := [.int 2, .int 1]) (by k_is) (.cons ⟨_, rfl⟩ (.cons ⟨_, rfl⟩ (.nil))) (fun β H => .cons (.int _) (.cons (.int _) (.nil))) (by decide)) β H) (.cons (v := .ref _) rfl (fun β H => (DL.rep_ktup (xs := []) (by k_is) (.nil) (fun β H => .nil) (by decide)) β H) (.cons (v := .ref _) rfl (fun β H => (DL.rep_ktup (xs := [.int 1, .int 9]) (by k_is) (.cons ⟨_, rfl⟩ (.cons ⟨_, rfl⟩ (.nil))) (fun β H => .cons (.int _) (.cons (.int _) (.nil))) (by decide)) β H) (.nil))))))
    (case a_MOST_CORES => k_is)
    (case r_MOST_CORES => exact ⟨_, rfl⟩)
    (case a_MOST_IN_CORE => k_is)
    (case r_MOST_IN_CORE => exact ⟨_, rfl⟩)
    (case a_MOST_IN_ALL => k_is)
    (case r_MOST_IN_ALL => exact ⟨_, rfl⟩)
    (case a_NONE_THERE => k_is)
    (case r_NONE_THERE => exact ⟨_, rfl⟩)
