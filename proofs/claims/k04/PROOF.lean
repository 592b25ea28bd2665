import PyProof.Rows.All
import Wide.All
import OpenK.AllK
import Wide.FinOn
import HandS.ForMost
import HandS.Flow
import HandS.IsInst
import HandS.TupAny
import HandS.Deep
import HandS.Conv
import HandS.Wide
import HandS.Strs
import HandS.Exc
import HandS.ExcOwn
import HandS.WordsExc
import HandS.TryOnly
import HandS.Lambda
import HandS.Style
import HandS.Zip
import HandS.More
import HandS.Set
import HandS.Ends
import HandS.ExcIs
import HandS.EndOwn
import KE.KNestM
import HandS.TupMul
import PySem.Challenge.RW_pairskept_k04_whole_pairs
set_option Elab.async false
set_option linter.all false
set_option maxRecDepth 100000
set_option maxHeartbeats 2000000
/-! # Data: what the values are worth, apart from where they lie -/
namespace DL
open PySem PySem.Spec L2
open PyProof.Rows hiding St

/-- data: lists (lst) that are never written again; ro: a list that is only read (the script, a constant); ref: the n-th of the things that are written -/
inductive D where
  | non | bl (b : Bool) | int (i : Int) | str (x : Str) | tup (l : List D) | lst (l : List D) | ro (l : List D) | ref (n : Nat) | raw (v : V)
/-- a thing that is written -/
inductive SO where
  | lst (l : List D)
  | dK (l : List (Key × D))
  | tab (q : Str)
abbrev Sto := List SO
structure Exn where
  cls : Str
  fld : Option (Str × D)
inductive Out (α : Type) where
  | ok (a : α) (st : Sto)
  | exn (x : Exn) (st : Sto)
  | bad
def Out.bind {α β : Type} (o : Out α) (k : α → Sto → Out β) : Out β := match o with
  | .ok a st => k a st
  | .exn x st => .exn x st
  | .bad => .bad
@[simp] theorem Out.bind_ok {α β : Type} (a : α) (st : Sto) (k : α → Sto → Out β) : (Out.ok a st).bind k = k a st := rfl
@[simp] theorem Out.bind_exn {α β : Type} (x : Exn) (st : Sto) (k : α → Sto → Out β) : (Out.exn x st).bind k = .exn x st := rfl
@[simp] theorem Out.bind_bad {α β : Type} (k : α → Sto → Out β) : (Out.bad : Out α).bind k = .bad := rfl
def Out.sat {α : Type} (o : Out α) (P : α → Sto → Prop) (E : Exn → Sto → Prop) : Prop := match o with
  | .ok a st => P a st
  | .exn x st => E x st
  | .bad => False
theorem Out.sat_bind {α β : Type} {o : Out α} {k : α → Sto → Out β} {P : β → Sto → Prop} {E : Exn → Sto → Prop} (h : (o.bind k).sat P E) : o.sat (fun a st => (k a st).sat P E) E := by
  cases o <;> exact h
theorem Out.sat.mono {α : Type} {o : Out α} {P P' : α → Sto → Prop} {E E' : Exn → Sto → Prop} (h : o.sat P E) (hP : ∀ a st, P a st → P' a st) (hE : ∀ x st, E x st → E' x st) : o.sat P' E' := by
  cases o with
  | ok a st => exact hP a st h
  | exn x st => exact hE x st h
  | bad => exact h

/-- where the written things lie, by number; what only the machine holds now (a comprehension's list in the making) -/
structure Bx where
  lo : List Addr
  pv : List Addr
def Bx.fre (β : Bx) (a : Addr) : Prop := a ∉ β.lo ∧ a ∉ β.pv
abbrev Env := List (Option D)
abbrev G (α : Type) := Env → Sto → Out α

section
variable (K : PySem.W.Frag)
/-- a list that is only read -/
def SqR (H : Hp) (a : Addr) (xs : List V) : Prop := (∃ o, H a = some (.frz o (.lst xs))) ∨
  ∃ (o : Obj) (its : Array Value) (n : Nat), K.lookup a = some o ∧ o.cls = .type "list" ∧ o.dict = none ∧ o.data = .seq its n ∧ its.size ≤ sizeLine ∧ Vals xs its.toList
mutual
inductive Rep (β : Bx) (H : Hp) : V → D → Prop
  | non : Rep β H .non .non
  | bl (b : Bool) : Rep β H (.bl b) (.bl b)
  | int (i : Int) : Rep β H (.int i) (.int i)
  | str (x : Str) : Rep β H (.str x) (.str x)
  | tup {a : Addr} {xs : List V} {ds : List D} : SqT K H a xs → Reps β H xs ds → ds.length ≤ sizeLine → Rep β H (.ref a) (.tup ds)
  | lst {a : Addr} {xs : List V} {ds : List D} : H a = some (.lst xs) → β.fre a → Reps β H xs ds → ds.length ≤ sizeLine → Rep β H (.ref a) (.lst ds)
  | ro {a : Addr} {xs : List V} {ds : List D} : SqR K H a xs → Reps β H xs ds → ds.length ≤ sizeLine → Rep β H (.ref a) (.ro ds)
  | ref {a : Addr} {n : Nat} : β.lo[n]? = some a → Rep β H (.ref a) (.ref n)
  | raw (v : V) : Rep β H v (.raw v)
inductive Reps (β : Bx) (H : Hp) : List V → List D → Prop
  | nil : Reps β H [] []
  | cons {v : V} {vs : List V} {d : D} {ds : List D} : Rep β H v d → Reps β H vs ds → Reps β H (v :: vs) (d :: ds)
end
end
/-- nothing stands there but a table -/
def Free (H : Hp) (p : Addr) : Prop := ∀ o, H p = some o → ∃ ps, o = .tbl ps
theorem Free.none {H : Hp} {p : Addr} (h : H p = .none) : Free H p := fun o z => by rw [h] at z; cases z
/-- how things move on: more may be written things, what isn't written stands -/
structure Ext (β : Bx) (H : Hp) (β' : Bx) (H' : Hp) : Prop where
  pre : ∃ new, β'.lo = β.lo ++ new ∧ ∀ p ∈ new, Free H p
  pv : β'.pv = β.pv
  keep : ∀ b o, b ∉ β.lo → H b = some o → (∀ ps, o ≠ .tbl ps) → H' b = some o
  tup : ∀ b xs, H b = some (.tup xs) → H' b = some (.tup xs)
  frz : ∀ b o u, H b = some (.frz o u) → H' b = some (.frz o u)
  dom : ∀ b o, H b = some o → (∀ ps, o ≠ .tbl ps) → ∃ o', H' b = some o' ∧ ∀ ps, o' ≠ .tbl ps
  cod : ∀ c q, H c = some (LamX.CodeO c q) → H' c = some (LamX.CodeO c q)
theorem Ext.refl (β : Bx) (H : Hp) : Ext β H β H := ⟨⟨[], by simp, by simp⟩, rfl, fun _ _ _ h _ => h, fun _ _ h => h, fun _ _ _ h => h, fun _ o h n => ⟨o, h, n⟩, fun _ _ h => h⟩
theorem Ext.trans {β β1 β2 : Bx} {H H1 H2 : Hp} (a : Ext β H β1 H1) (b : Ext β1 H1 β2 H2) : Ext β H β2 H2 := by
  obtain ⟨n1, e1, f1⟩ := a.pre
  obtain ⟨n2, e2, f2⟩ := b.pre
  refine ⟨⟨n1 ++ n2, by rw [e2, e1, List.append_assoc], fun p hp => ?_⟩, b.pv.trans a.pv, fun c o hc h hn => ?_, fun c xs h => b.tup c xs (a.tup c xs h), fun c o u h => b.frz c o u (a.frz c o u h), fun c o h n => ?_, fun c q h => b.cod c q (a.cod c q h)⟩
  · rcases List.mem_append.mp hp with hp | hp
    · exact f1 p hp
    · intro o q
      refine Classical.byContradiction fun hn => ?_
      obtain ⟨o', z, n⟩ := a.dom p o q fun ps z => hn ⟨ps, z⟩
      obtain ⟨ps, z⟩ := f2 p hp o' z
      exact n ps z
  · refine b.keep c o ?_ (a.keep c o hc h hn) hn
    rw [e1]
    intro z
    rcases List.mem_append.mp z with z | z
    · exact hc z
    · obtain ⟨ps, z⟩ := f1 c z o h
      exact hn ps z
  · obtain ⟨o', h', n'⟩ := a.dom c o h n
    exact b.dom c o' h' n'
theorem Ext.same {β : Bx} {H H' : Hp} (s : Same H H') : Ext β H β H' := ⟨⟨[], by simp, by simp⟩, rfl, fun _ _ _ h _ => s _ _ h, fun _ _ h => s _ _ h, fun _ _ _ h => s _ _ h, fun _ o h n => ⟨o, s _ _ h, n⟩, fun _ _ h => s _ _ h⟩
theorem same_new {H : Hp} {p : Addr} {o : HO} (h : H p = none) : Same H (upd H p o) := fun b x e => by
  rw [upd_ne (ne_of_none e h)]
  exact e
theorem Ext.new {β : Bx} {H : Hp} {p : Addr} {o : HO} (h : H p = none) : Ext β H β (upd H p o) := Ext.same (same_new h)
section
variable {K : PySem.W.Frag} {β β' : Bx} {H H' : Hp}
theorem Ext.mem (e : Ext β H β' H') {n : Nat} {a : Addr} (h : β.lo[n]? = some a) : β'.lo[n]? = some a := by
  obtain ⟨new, e1, _⟩ := e.pre
  rw [e1, List.getElem?_append_left (by exact (List.getElem?_eq_some_iff.mp h).1)]
  exact h
theorem Ext.nmem (e : Ext β H β' H') {a : Addr} {xs : List V} (h : H a = some (.lst xs)) (n : β.fre a) : β'.fre a := by
  obtain ⟨new, e1, f⟩ := e.pre
  refine ⟨fun z => ?_, by rw [e.pv]; exact n.2⟩
  rw [e1] at z
  rcases List.mem_append.mp z with z | z
  · exact n.1 z
  · obtain ⟨ps, z⟩ := f a z _ h
    cases z
theorem Ext.sqT (e : Ext β H β' H') {a : Addr} {xs : List V} (h : SqT K H a xs) : SqT K H' a xs := by
  rcases h with (h | ⟨o, h⟩) | h
  · exact .inl (.inl (e.tup _ _ h))
  · exact .inl (.inr ⟨o, e.frz _ _ _ h⟩)
  · exact .inr h
theorem Ext.sqR (e : Ext β H β' H') {a : Addr} {xs : List V} (h : SqR K H a xs) : SqR K H' a xs := by
  rcases h with ⟨o, h⟩ | h
  · exact .inl ⟨o, e.frz _ _ _ h⟩
  · exact .inr h
end

section
variable {K : PySem.W.Frag} {β β' : Bx} {H H' : Hp}
/-- what a value's data lean on stands -/
structure Mv (β : Bx) (H : Hp) (β' : Bx) (H' : Hp) : Prop where
  lst : ∀ a xs, H a = some (.lst xs) → β.fre a → H' a = some (.lst xs) ∧ β'.fre a
  tup : ∀ b xs, H b = some (.tup xs) → H' b = some (.tup xs)
  frz : ∀ b o u, H b = some (.frz o u) → H' b = some (.frz o u)
  mem : ∀ (n : Nat) (a : Addr), β.lo[n]? = some a → β'.lo[n]? = some a
  cod : ∀ c q, H c = some (LamX.CodeO c q) → H' c = some (LamX.CodeO c q)
theorem Mv.sqT (e : Mv β H β' H') {a : Addr} {xs : List V} (h : SqT K H a xs) : SqT K H' a xs := by
  rcases h with (h | ⟨o, h⟩) | h
  · exact .inl (.inl (e.tup _ _ h))
  · exact .inl (.inr ⟨o, e.frz _ _ _ h⟩)
  · exact .inr h
theorem Mv.sqR (e : Mv β H β' H') {a : Addr} {xs : List V} (h : SqR K H a xs) : SqR K H' a xs := by
  rcases h with ⟨o, h⟩ | h
  · exact .inl ⟨o, e.frz _ _ _ h⟩
  · exact .inr h
theorem Ext.mv (e : Ext β H β' H') : Mv β H β' H' := ⟨fun a xs h n => ⟨e.keep _ _ n.1 h (fun ps z => by cases z), e.nmem h n⟩, e.tup, e.frz, fun _ _ h => e.mem h, e.cod⟩
theorem Mv.trans {β2 : Bx} {H2 : Hp} (a : Mv β H β' H') (b : Mv β' H' β2 H2) : Mv β H β2 H2 :=
  ⟨fun c xs h n => let ⟨h1, n1⟩ := a.lst c xs h n; b.lst c xs h1 n1, fun c xs h => b.tup c xs (a.tup c xs h), fun c o u h => b.frz c o u (a.frz c o u h), fun n c h => b.mem n c (a.mem n c h), fun c q h => b.cod c q (a.cod c q h)⟩
mutual
theorem Rep.move (e : Mv β H β' H') : ∀ (d : D) (v : V), Rep K β H v d → Rep K β' H' v d
  | .non, _, h => by cases h; exact .non
  | .bl _, _, h => by cases h; exact .bl _
  | .int _, _, h => by cases h; exact .int _
  | .str _, _, h => by cases h; exact .str _
  | .tup ds, _, h => by cases h with | tup hs ha hl => exact .tup (e.sqT hs) (Reps.move e ds _ ha) hl
  | .lst ds, _, h => by cases h with | lst hs hn ha hl => exact .lst (e.lst _ _ hs hn).1 (e.lst _ _ hs hn).2 (Reps.move e ds _ ha) hl
  | .ro ds, _, h => by cases h with | ro hs ha hl => exact .ro (e.sqR hs) (Reps.move e ds _ ha) hl
  | .ref _, _, h => by cases h with | ref hm => exact .ref (e.mem _ _ hm)
  | .raw _, _, h => by cases h; exact .raw _
theorem Reps.move (e : Mv β H β' H') : ∀ (ds : List D) (vs : List V), Reps K β H vs ds → Reps K β' H' vs ds
  | [], _, h => by cases h; exact .nil
  | d :: ds, _, h => by cases h with | cons h1 h2 => exact .cons (Rep.move e d _ h1) (Reps.move e ds _ h2)
end
theorem Rep.ext (e : Ext β H β' H') (d : D) (v : V) (h : Rep K β H v d) : Rep K β' H' v d := Rep.move e.mv d v h
theorem Reps.ext (e : Ext β H β' H') (d : List D) (v : List V) (h : Reps K β H v d) : Reps K β' H' v d := Reps.move e.mv d v h
theorem Reps.length : ∀ {vs : List V} {ds : List D}, Reps K β H vs ds → vs.length = ds.length
  | _, _, .nil => rfl
  | _, _, .cons _ t => congrArg (· + 1) (Reps.length t)
theorem Reps.append : ∀ {vs ws : List V} {ds es : List D}, Reps K β H vs ds → Reps K β H ws es → Reps K β H (vs ++ ws) (ds ++ es)
  | _, _, _, _, .nil, s => s
  | _, _, _, _, .cons r t, s => .cons r (Reps.append t s)
theorem Reps.get : ∀ {vs : List V} {ds : List D} {i : Nat} {d : D}, Reps K β H vs ds → ds[i]? = some d → ∃ v, vs[i]? = some v ∧ Rep K β H v d
  | _, _, _, _, .nil, e => by simp at e
  | _, _, 0, _, .cons r _, e => by simp at e; subst e; exact ⟨_, rfl, r⟩
  | _, _, i + 1, d, .cons _ t, e => by
    obtain ⟨v, h1, h2⟩ := Reps.get (i := i) (d := d) t (by simpa using e)
    exact ⟨v, by simpa using h1, h2⟩
theorem Reps.got : ∀ {vs : List V} {ds : List D} {i : Nat} {v : V}, Reps K β H vs ds → vs[i]? = some v → ∃ d, ds[i]? = some d ∧ Rep K β H v d
  | _, _, _, _, .nil, e => by simp at e
  | _, _, 0, _, .cons r _, e => by simp at e; subst e; exact ⟨_, rfl, r⟩
  | _, _, i + 1, v, .cons _ t, e => by
    obtain ⟨d, h1, h2⟩ := Reps.got (i := i) (v := v) t (by simpa using e)
    exact ⟨d, by simpa using h1, h2⟩
theorem Reps.take : ∀ {vs : List V} {ds : List D} (n : Nat), Reps K β H vs ds → Reps K β H (vs.take n) (ds.take n)
  | _, _, 0, _ => .nil
  | _, _, _ + 1, .nil => .nil
  | _, _, n + 1, .cons r t => .cons r (Reps.take n t)
theorem Reps.drop : ∀ {vs : List V} {ds : List D} (n : Nat), Reps K β H vs ds → Reps K β H (vs.drop n) (ds.drop n)
  | _, _, 0, r => r
  | _, _, _ + 1, .nil => .nil
  | _, _, n + 1, .cons _ t => Reps.drop n t
theorem Reps.set {v : V} {d : D} (r : Rep K β H v d) : ∀ {vs : List V} {ds : List D} (i : Nat), Reps K β H vs ds → Reps K β H (vs.set i v) (ds.set i d)
  | _, _, _, .nil => .nil
  | _, _, 0, .cons _ t => .cons r t
  | _, _, i + 1, .cons q t => .cons q (Reps.set r i t)
theorem Reps.one {vs : List V} {d : D} (h : Reps K β H vs [d]) : ∃ v, vs = [v] ∧ Rep K β H v d := by
  cases h with | cons r t => cases t; exact ⟨_, rfl, r⟩
theorem Reps.two {vs : List V} {d e : D} (h : Reps K β H vs [d, e]) : ∃ v w, vs = [v, w] ∧ Rep K β H v d ∧ Rep K β H w e := by
  cases h with
  | cons r t =>
    obtain ⟨w, rfl, q⟩ := t.one
    exact ⟨_, w, rfl, r, q⟩

/-! ### what is written -/
/-- where the law's own table of code objects lies -/
def tabOf (K : PySem.W.Frag) (o : Option Obj) : Addr := match o with
  | some ⟨_, _, .fields vs, _⟩ => (match vs[11]? with
    | some (Value.ref P) => P
    | _ => 0)
  | _ => 0
def codeAt (K : PySem.W.Frag) (o : Option Obj) : Option Obj := match o with
  | some ⟨_, _, .func fd, _⟩ => (match fd.code with
    | Value.ref c => K.lookup c
    | _ => none)
  | _ => none
def tabAddr (K : PySem.W.Frag) : Addr := match PySem.W.nsIn K mainGlobals "law" with
  | some (some (Value.ref f)) => tabOf K (codeAt K (K.lookup f))
  | _ => 0
def SORel (K : PySem.W.Frag) (β : Bx) (H : Hp) (a : Addr) : SO → Prop
  | .lst ds => ∃ xs, H a = some (.lst xs) ∧ Reps K β H xs ds
  | .dK kvs => ∃ vs, H a = some (.dK vs) ∧ vs.length = kvs.length ∧ vs.map (·.1) = kvs.map (·.1) ∧ Reps K β H (vs.map (·.2)) (kvs.map (·.2))
  | .tab q => a = tabAddr K ∧ LamX.TabS H a q
structure StoOk (K : PySem.W.Frag) (β : Bx) (H : Hp) (st : Sto) : Prop where
  len : β.lo.length = st.length
  nd : β.lo.Nodup
  obj : ∀ (n : Nat) (a : Addr) (o : SO), β.lo[n]? = some a → st[n]? = some o → SORel K β H a o
  priv : ∀ p ∈ β.pv, ∃ u, H p = some u ∧ ∀ ps, u ≠ .tbl ps
theorem SORel.there {a : Addr} {o : SO} (h : SORel K β H a o) : ∃ u, H a = some u := by
  cases o with
  | lst ds => obtain ⟨xs, h, _⟩ := h; exact ⟨_, h⟩
  | dK kvs => obtain ⟨vs, h, _⟩ := h; exact ⟨_, h⟩
  | tab q => obtain ⟨_, ps, h, _⟩ := h; exact ⟨_, h⟩
theorem StoOk.get {st : Sto} (S : StoOk K β H st) {n : Nat} {a : Addr} (h : β.lo[n]? = some a) : ∃ o, st[n]? = some o ∧ SORel K β H a o := by
  have hl : n < st.length := by rw [← S.len]; exact (List.getElem?_eq_some_iff.mp h).1
  exact ⟨st[n], List.getElem?_eq_getElem hl, S.obj n a _ h (List.getElem?_eq_getElem hl)⟩
theorem StoOk.some {st : Sto} (S : StoOk K β H st) {a : Addr} (h : a ∈ β.lo) : ∃ u, H a = some u := by
  obtain ⟨n, hn⟩ := List.mem_iff_getElem?.mp h
  obtain ⟨o, _, r⟩ := S.get hn
  exact r.there
theorem StoOk.nmem {st : Sto} (S : StoOk K β H st) {a : Addr} (h : H a = none) : β.fre a := by
  refine ⟨fun z => ?_, fun z => ?_⟩
  · obtain ⟨u, hu⟩ := S.some z
    rw [h] at hu
    cases hu
  · obtain ⟨u, hu, _⟩ := S.priv a z
    rw [h] at hu
    cases hu
theorem SORel.same {a : Addr} {o : SO} (s : Same H H') (h : SORel K β H a o) : SORel K β H' a o := by
  cases o with
  | lst ds => obtain ⟨xs, h, r⟩ := h; exact ⟨xs, s _ _ h, Reps.ext (Ext.same s) _ _ r⟩
  | dK kvs => obtain ⟨vs, h, l, k, r⟩ := h; exact ⟨vs, s _ _ h, l, k, Reps.ext (Ext.same s) _ _ r⟩
  | tab q => exact ⟨h.1, h.2.ext s⟩
theorem StoOk.same {st : Sto} (S : StoOk K β H st) (s : Same H H') : StoOk K β H' st := ⟨S.len, S.nd, fun n a o h1 h2 => (S.obj n a o h1 h2).same s, fun p hp => let ⟨u, hu, n⟩ := S.priv p hp; ⟨u, s _ _ hu, n⟩⟩
theorem StoOk.fresh {st : Sto} (S : StoOk K β H st) {p : Addr} {o : HO} (h : H p = none) : StoOk K β (upd H p o) st := S.same (same_new h)

theorem tab_move {a : Addr} {q : Str} (e : Mv β H β' H') (k : ∀ u, H a = some u → H' a = some u) (h : LamX.TabS H a q) : LamX.TabS H' a q := by
  obtain ⟨ps, h1, h2, h3⟩ := h
  refine ⟨ps, k _ h1, h2, fun pos cv hc => ?_⟩
  obtain ⟨c, e1, e2⟩ := h3 pos cv hc
  exact ⟨c, e1, e.cod c q e2⟩
theorem SORel.move {a : Addr} {o : SO} (e : Mv β H β' H') (k : ∀ u, H a = some u → H' a = some u) (h : SORel K β H a o) : SORel K β' H' a o := by
  cases o with
  | lst ds => obtain ⟨xs, h, r⟩ := h; exact ⟨xs, k _ h, Reps.move e _ _ r⟩
  | dK kvs => obtain ⟨vs, h, l, q, r⟩ := h; exact ⟨vs, k _ h, l, q, Reps.move e _ _ r⟩
  | tab q => exact ⟨h.1, tab_move e k h.2⟩
/-- the machine holds a new thing at p -/
def Bx.hold (β : Bx) (p : Addr) : Bx := ⟨β.lo, p :: β.pv⟩
/-- .. gives it away -/
def Bx.back (β : Bx) (pv : List Addr) : Bx := ⟨β.lo, pv⟩
theorem Mv.hold {p : Addr} {o : HO} (h : H p = none) : Mv β H (β.hold p) (upd H p o) :=
  ⟨fun a xs ha n => ⟨same_new h _ _ ha, n.1, fun z => (List.mem_cons.mp z).elim (fun e => ne_of_none ha h e) n.2⟩, fun _ _ q => same_new h _ _ q, fun _ _ _ q => same_new h _ _ q, fun _ _ q => q, fun _ _ q => same_new h _ _ q⟩
theorem StoOk.hold {st : Sto} {p : Addr} {o : HO} (S : StoOk K β H st) (h : H p = none) (no : ∀ ps, o ≠ .tbl ps := by intro _ z; cases z) : StoOk K (β.hold p) (upd H p o) st :=
  ⟨S.len, S.nd, fun n a u h1 h2 => (S.obj n a u h1 h2).move (Mv.hold h) fun _ q => same_new h _ _ q, fun q hq => by
    rcases List.mem_cons.mp hq with rfl | hq
    · exact ⟨o, upd_same, no⟩
    · obtain ⟨u, hu, n⟩ := S.priv q hq
      exact ⟨u, same_new h _ _ hu, n⟩⟩
theorem Mv.poke {p : Addr} {xs : List V} {o : HO} (hp : p ∈ β.pv) (h : H p = some (.lst xs)) : Mv β H β (upd H p o) := by
  have ne : ∀ b u, H b = some u → u ≠ .lst xs → b ≠ p := fun b u q n z => by
    rw [z, h] at q
    exact n (Option.some.inj q).symm
  exact ⟨fun a xs ha n => ⟨by rw [upd_ne (show a ≠ p from fun z => n.2 (by rw [z]; exact hp))]; exact ha, n⟩, fun b _ q => by rw [upd_ne (ne b _ q fun z => by cases z)]; exact q, fun b _ _ q => by rw [upd_ne (ne b _ q fun z => by cases z)]; exact q, fun _ _ q => q, fun b _ q => by rw [upd_ne (ne b _ q fun z => by cases z)]; exact q⟩
theorem StoOk.poke {st : Sto} {p : Addr} {xs : List V} {o : HO} (S : StoOk K β H st) (hp : p ∈ β.pv) (hl : p ∉ β.lo) (h : H p = Option.some (.lst xs)) (no : ∀ ps, o ≠ .tbl ps := by intro _ z; cases z) : StoOk K β (upd H p o) st :=
  ⟨S.len, S.nd, fun n a u h1 h2 => (S.obj n a u h1 h2).move (Mv.poke hp h) fun v q => by rw [upd_ne (show a ≠ p from fun z => hl (by rw [← z]; exact List.mem_iff_getElem?.mpr ⟨n, h1⟩))]; exact q, fun q hq => by
    by_cases e : q = p
    · exact ⟨o, by rw [e, upd_same], no⟩
    · obtain ⟨u, hu, n⟩ := S.priv q hq
      exact ⟨u, by rw [upd_ne e]; exact hu, n⟩⟩
theorem Mv.back {pv : List Addr} (hs : ∀ a ∈ pv, a ∈ β.pv) : Mv β H (β.back pv) H := ⟨fun a xs h n => ⟨h, n.1, fun z => n.2 (hs a z)⟩, fun _ _ q => q, fun _ _ _ q => q, fun _ _ q => q, fun _ _ q => q⟩
theorem StoOk.back {st : Sto} {pv : List Addr} (S : StoOk K β H st) (hs : ∀ a ∈ pv, a ∈ β.pv) : StoOk K (β.back pv) H st :=
  ⟨S.len, S.nd, fun n a u h1 h2 => (S.obj n a u h1 h2).move (Mv.back hs) fun _ q => q, fun q hq => S.priv q (hs q hq)⟩
/-- while p was held -/
theorem Ext.held {β1 : Bx} {H1 : Hp} {p : Addr} {o : HO} (h : H p = none) (e : Ext (β.hold p) (upd H p o) β1 H1) : Ext β H (β1.back β.pv) H1 := by
  obtain ⟨new, e1, f⟩ := e.pre
  refine ⟨⟨new, e1, fun q hq => ?_⟩, rfl, fun b u hb hu hn => e.keep b u hb (same_new h _ _ hu) hn, fun b xs q => e.tup b xs (same_new h _ _ q), fun b o u q => e.frz b o u (same_new h _ _ q), fun b u q n => e.dom b u (same_new h _ _ q) n, fun c q z => e.cod c q (same_new h _ _ z)⟩
  have z := f q hq
  by_cases hqp : q = p
  · rw [hqp]; exact Free.none h
  · intro w hw
    exact z w (by rw [upd_ne hqp]; exact hw)
theorem Ext.poke {β1 : Bx} {H1 : Hp} {p : Addr} {ys : List V} {xs : List V} {u : HO} (h : H p = none) (e : Ext (β.hold p) (upd H p (.lst ys)) β1 H1) (hx : H1 p = some (.lst xs)) (no : ∀ ps, u ≠ .tbl ps := by intro _ z; cases z) : Ext (β.hold p) (upd H p u) β1 (upd H1 p u) := by
  obtain ⟨new, e1, f⟩ := e.pre
  have up : ∀ {b : Addr} {w x : HO}, b ≠ p → upd H p w b = some x → upd H p (.lst ys) b = some x := fun {b w x} n q => by rw [upd_ne n] at q ⊢; exact q
  refine ⟨⟨new, e1, fun q hq => ?_⟩, e.pv, fun b v hb hv hn => ?_, fun b ys q => ?_, fun b w v q => ?_, fun b v q n => ?_, fun c q' z => ?_⟩
  · have z := f q hq
    by_cases hqp : q = p
    · obtain ⟨ps, z⟩ := z (.lst ys) (by rw [hqp, upd_same])
      cases z
    · intro w hw
      exact z w (up hqp hw)
  · by_cases hbp : b = p
    · rw [hbp, upd_same] at hv ⊢
      exact hv
    · rw [upd_ne hbp]
      exact e.keep b v hb (up hbp hv) hn
  · by_cases hbp : b = p
    · rw [hbp, upd_same] at q ⊢
      exact q
    · rw [upd_ne hbp]
      exact e.tup b ys (up hbp q)
  · by_cases hbp : b = p
    · rw [hbp, upd_same] at q ⊢
      exact q
    · rw [upd_ne hbp]
      exact e.frz b w v (up hbp q)
  · by_cases hbp : b = p
    · exact ⟨u, by rw [hbp, upd_same], no⟩
    · rw [upd_ne hbp]
      exact e.dom b v (up hbp q) n
  · by_cases hbp : c = p
    · rw [hbp, upd_same] at z ⊢
      exact z
    · rw [upd_ne hbp]
      exact e.cod c q' (up hbp z)

/-! ### the slots -/
def RepEnv (K : PySem.W.Frag) (β : Bx) (H : Hp) (σ : St) (ρ : Env) : Prop := σ.length = ρ.length ∧ ∀ (i : Nat) (d : D), ρ[i]? = some (some d) → ∃ v, σ[i]? = some (some v) ∧ Rep K β H v d
theorem RepEnv.ext {σ : St} {ρ : Env} (h : RepEnv K β H σ ρ) (e : Ext β H β' H') : RepEnv K β' H' σ ρ := ⟨h.1, fun i d q => by
  obtain ⟨v, h1, h2⟩ := h.2 i d q
  exact ⟨v, h1, Rep.ext e _ _ h2⟩⟩
theorem RepEnv.set {σ : St} {ρ : Env} (h : RepEnv K β H σ ρ) (i : Nat) {v : V} {d : D} (r : Rep K β H v d) : RepEnv K β H (σ.set i (some v)) (ρ.set i (some d)) := by
  refine ⟨by rw [List.length_set, List.length_set]; exact h.1, fun j e q => ?_⟩
  by_cases hj : i = j
  · subst hj
    have hl : i < ρ.length := by
      have := (List.getElem?_eq_some_iff.mp q).1
      simpa using this
    rw [List.getElem?_set_self hl] at q
    have q := Option.some.inj (Option.some.inj q)
    subst q
    exact ⟨v, List.getElem?_set_self (by rw [h.1]; exact hl), r⟩
  · rw [List.getElem?_set_ne hj] at q
    obtain ⟨w, h1, h2⟩ := h.2 j e q
    exact ⟨w, by rw [List.getElem?_set_ne hj]; exact h1, h2⟩

/-! ### ends -/
/-- an error by its class's name -/
def XRep (K : PySem.W.Frag) (mg : Str → Option Value) (β : Bx) (H : Hp) (x : Exn) (cls : Value) (dd : Option Addr) : Prop :=
  mg x.cls = some cls ∧ match x.fld with
    | none => dd = none
    | some (f, d) => ∃ da v, dd = some da ∧ H da = some (.xd [(f, v)]) ∧ Rep K β H v d
def PostV (K : PySem.W.Frag) (Q : VK) (β : Bx) (H : Hp) : D → Sto → Prop := fun d st' => ∀ v β' H', Ext β H β' H' → StoOk K β' H' st' → Rep K β' H' v d → Q v H'
def PostX (K : PySem.W.Frag) (mg : Str → Option Value) (E : XK) (β : Bx) (H : Hp) : Exn → Sto → Prop := fun x st' => ∀ cls dd β' H', Ext β H β' H' → StoOk K β' H' st' → XRep K mg β' H' x cls dd → E cls dd H'
theorem PostV.ext {Q : VK} {d : D} {st : Sto} (p : PostV K Q β H d st) (e : Ext β H β' H') : PostV K Q β' H' d st := fun v β2 H2 e2 => p v β2 H2 (e.trans e2)
theorem PostX.ext {mg : Str → Option Value} {E : XK} {x : Exn} {st : Sto} (p : PostX K mg E β H x st) (e : Ext β H β' H') : PostX K mg E β' H' x st := fun c d β2 H2 e2 => p c d β2 H2 (e.trans e2)
end

/-- an expression's reading by its data -/
def tD (K : PySem.W.Frag) (mg : Str → Option Value) (W : WX) (f : G D) : TE := fun σ H Q => ∃ β ρ st, RepEnv K β H σ ρ ∧ StoOk K β H st ∧
  (f ρ st).sat (PostV K Q β H) (PostX K mg (fun c d H' => W c d σ H') β H)
def PostB (K : PySem.W.Frag) (Q : Bool → Hp → Prop) (β : Bx) (H : Hp) : Bool → Sto → Prop := fun b st' => ∀ β' H', Ext β H β' H' → StoOk K β' H' st' → Q b H'
def tDT (K : PySem.W.Frag) (mg : Str → Option Value) (W : WX) (f : G Bool) : TT := fun σ H Q => ∃ β ρ st, RepEnv K β H σ ρ ∧ StoOk K β H st ∧
  (f ρ st).sat (PostB K Q β H) (PostX K mg (fun c d H' => W c d σ H') β H)
def PostA (K : PySem.W.Frag) (Q : List V → Hp → Prop) (β : Bx) (H : Hp) : List D → Sto → Prop := fun ds st' => ∀ vs β' H', Ext β H β' H' → StoOk K β' H' st' → Reps K β' H' vs ds → Q vs H'
def tDA (K : PySem.W.Frag) (mg : Str → Option Value) (W : WX) (f : G (List D)) : TA := fun σ H Q => ∃ β ρ st, RepEnv K β H σ ρ ∧ StoOk K β H st ∧
  (f ρ st).sat (PostA K Q β H) (PostX K mg (fun c d H' => W c d σ H') β H)
inductive Fl where
  | nx (ρ : Env) | rt (d : D) | bk (ρ : Env) | ct (ρ : Env)
def PostF (K : PySem.W.Frag) (D' : Ends) (β : Bx) (H : Hp) : Fl → Sto → Prop := fun f st' => match f with
  | .nx ρ => ∀ σ β' H', Ext β H β' H' → StoOk K β' H' st' → RepEnv K β' H' σ ρ → D'.nx σ H'
  | .rt d => ∀ v β' H', Ext β H β' H' → StoOk K β' H' st' → Rep K β' H' v d → D'.rt v H'
  | .bk ρ => ∀ σ β' H', Ext β H β' H' → StoOk K β' H' st' → RepEnv K β' H' σ ρ → D'.bk σ H'
  | .ct ρ => ∀ σ β' H', Ext β H β' H' → StoOk K β' H' st' → RepEnv K β' H' σ ρ → D'.ct σ H'
def PostXS (K : PySem.W.Frag) (mg : Str → Option Value) (W : WX) (β : Bx) (H : Hp) : Exn → Sto → Prop := fun x st' => ∀ cls dd σ β' H', Ext β H β' H' → StoOk K β' H' st' → XRep K mg β' H' x cls dd → W cls dd σ H'
def tDS (K : PySem.W.Frag) (mg : Str → Option Value) (W : WX) (f : G Fl) : TS := fun D' σ H => ∃ β ρ st, RepEnv K β H σ ρ ∧ StoOk K β H st ∧
  (f ρ st).sat (PostF K D' β H) (PostXS K mg W β H)

theorem PEmono {X : Cx} {e : Expr} {t t' : TE} (h : PE X e t) (i : ∀ σ H Q, t' σ H Q → t σ H Q) : PE X e t' := ⟨fun pins s σ H Q I q => h.run pins s σ H Q I (i _ _ _ q)⟩
theorem PTmono {X : Cx} {e : Expr} {t t' : TT} (h : PT X e t) (i : ∀ σ H Q, t' σ H Q → t σ H Q) : PT X e t' := ⟨fun pins s σ H Q I q => h.run pins s σ H Q I (i _ _ _ q)⟩
theorem PWmono {X : Cx} {e : Expr} {t t' : TT} (h : PW X e t) (i : ∀ σ H Q, t' σ H Q → t σ H Q) : PW X e t' := ⟨fun wh pins s σ H Q I q => h.run wh pins s σ H Q I (i _ _ _ q)⟩
theorem PAmono {X : Cx} {es : List Expr} {t t' : TA} (h : PA X es t) (i : ∀ σ H Q, t' σ H Q → t σ H Q) : PA X es t' := ⟨fun pos pins s σ H Q I q => h.run pos pins s σ H Q I (i _ _ _ q)⟩
theorem PSmono {X : Cx} {st : Stmt} {t t' : TS} (h : PS X st t) (i : ∀ D' σ H, t' D' σ H → t D' σ H) : PS X st t' := ⟨fun pins s σ H D' I q => h.run pins s σ H D' I (i _ _ _ q)⟩
theorem PSsmono {X : Cx} {st : List Stmt} {t t' : TS} (h : PSs X st t) (i : ∀ D' σ H, t' D' σ H → t D' σ H) : PSs X st t' := ⟨fun pins s σ H D' I q => h.run pins s σ H D' I (i _ _ _ q)⟩
theorem PImono {X : Cx} {tg e : Expr} {t t' : TI} (h : PI X tg e t) (i : ∀ σ H R, t' σ H R → t σ H R) : PI X tg e t' := ⟨fun pins s σ H R I q => h.run pins s σ H R I (i _ _ _ q)⟩
theorem PGmono {X : Cx} {tg : Expr} {t t' : TG} (h : PG X tg t) (i : ∀ v σ H Q, t' v σ H Q → t v σ H Q) : PG X tg t' := ⟨fun pins s σ H v u Q I r q => h.run pins s σ H v u Q I r (i _ _ _ _ q)⟩

abbrev DE (X : Cx) (W : WX) (e : Expr) (f : G D) : Prop := PE X e (tD X.K X.mg W f)
abbrev DT (X : Cx) (W : WX) (e : Expr) (f : G Bool) : Prop := PT X e (tDT X.K X.mg W f)
abbrev DW (X : Cx) (W : WX) (e : Expr) (f : G Bool) : Prop := PW X e (tDT X.K X.mg W f)
abbrev DA (X : Cx) (W : WX) (es : List Expr) (f : G (List D)) : Prop := PA X es (tDA X.K X.mg W f)
abbrev DS (X : Cx) (W : WX) (st : Stmt) (f : G Fl) : Prop := PS X st (tDS X.K X.mg W f)
abbrev DSs (X : Cx) (W : WX) (st : List Stmt) (f : G Fl) : Prop := PSs X st (tDS X.K X.mg W f)
end DL

set_option Elab.async false
set_option linter.all false
set_option maxRecDepth 100000
set_option maxHeartbeats 2000000
namespace DL
open PySem PySem.Spec L2
open PyProof.Rows hiding St

/-! ### data as PyData, for == and in -/
mutual
def D.py : D → PyData
  | .non => .none
  | .bl b => .bool b
  | .int i => .int i
  | .str x => .str x
  | .tup l => .tuple (D.pys l)
  | .lst l => .list (D.pys l)
  | .ro l => .list (D.pys l)
  | .ref _ => .dict []
  | .raw _ => .dict []
def D.pys : List D → List PyData
  | [] => []
  | d :: ds => D.py d :: D.pys ds
end
section
variable {K : PySem.W.Frag} {β : Bx} {H : Hp}
theorem SqR.sqL {a : Addr} {xs : List V} (h : SqR K H a xs) : SqL K H a xs := by
  rcases h with ⟨o, h⟩ | h
  · exact .inl (.inr ⟨o, h⟩)
  · exact .inr h
mutual
theorem Rep.dp : ∀ (d : D) (v : V), d.py.canLay0 = true → Rep K β H v d → Dp K H v d.py
  | .non, _, _, h => by cases h; simp only [D.py]; exact .non
  | .bl _, _, _, h => by cases h; simp only [D.py]; exact .bl _
  | .int _, _, _, h => by cases h; simp only [D.py]; exact .int _
  | .str _, _, _, h => by cases h; simp only [D.py]; exact .str _
  | .tup ds, _, c, h => by
    cases h with
    | tup hs ha hl =>
      simp only [D.py, PyData.canLay0] at c ⊢
      exact .tup hs (Reps.dp ds _ c ha)
  | .lst ds, _, c, h => by
    cases h with
    | lst hs hn ha hl =>
      simp only [D.py, PyData.canLay0] at c ⊢
      exact .lst (.inl (.inl hs)) (Reps.dp ds _ c ha)
  | .ro ds, _, c, h => by
    cases h with
    | ro hs ha hl =>
      simp only [D.py, PyData.canLay0] at c ⊢
      exact .lst hs.sqL (Reps.dp ds _ c ha)
  | .ref _, _, c, h => by simp [D.py, PyData.canLay0] at c
  | .raw _, _, c, h => by simp [D.py, PyData.canLay0] at c
theorem Reps.dp : ∀ (ds : List D) (vs : List V), PyData.canLayAll0 (D.pys ds) = true → Reps K β H vs ds → DpAll K H vs (D.pys ds)
  | [], _, _, h => by cases h; simp only [D.pys]; exact .nil
  | d :: ds, _, c, h => by
    cases h with
    | cons h1 h2 =>
      simp only [D.pys, PyData.canLayAll0, Bool.and_eq_true] at c ⊢
      exact .cons (Rep.dp d _ c.1 h1) (Reps.dp ds _ c.2 h2)
end
end

/-! ### operators by values -/
def oout {α : Type} (o : Option α) (st : Sto) : Out α := match o with
  | some a => .ok a st
  | none => .bad
@[simp] theorem oout_some {α : Type} (a : α) (st : Sto) : oout (some a) st = .ok a st := rfl
@[simp] theorem oout_none {α : Type} (st : Sto) : oout (none : Option α) st = .bad := rfl
theorem oout_sat {α : Type} {o : Option α} {st : Sto} {P : α → Sto → Prop} {E : Exn → Sto → Prop} (h : (oout o st).sat P E) : ∃ a, o = some a ∧ P a st := by
  cases o with
  | none => exact h.elim
  | some a => exact ⟨a, rfl, h⟩
/-- what a rule by values asks, by data: nothing that is written changes -/
def OpD (K : PySem.W.Frag) (r : R2) (m : D → D → Sto → Option D) : Prop := ∀ (β : Bx) (H : Hp) (st : Sto) (x y : V) (dx dy d : D) (Q : VK), Rep K β H x dx → Rep K β H y dy → StoOk K β H st → m dx dy st = some d →
  (∀ v H', Same H H' → Rep K β H' v d → Q v H') → r x y H Q
def UnD (K : PySem.W.Frag) (r : V → Hp → VK → Prop) (m : D → Sto → Option D) : Prop := ∀ (β : Bx) (H : Hp) (st : Sto) (x : V) (dx d : D) (Q : VK), Rep K β H x dx → StoOk K β H st → m dx st = some d →
  (∀ v H', Same H H' → Rep K β H' v d → Q v H') → r x H Q
def CallD (K : PySem.W.Frag) (r : List V → Hp → VK → Prop) (m : List D → Sto → Option D) : Prop := ∀ (β : Bx) (H : Hp) (st : Sto) (xs : List V) (ds : List D) (d : D) (Q : VK), Reps K β H xs ds → StoOk K β H st → m ds st = some d →
  (∀ v H', Same H H' → Rep K β H' v d → Q v H') → r xs H Q

def gC (d : D) : G D := fun _ st => .ok d st
def gVar (i : Nat) : G D := fun ρ st => match ρ[i]? with
  | some (some d) => .ok d st
  | _ => .bad
def gOp (m : D → D → Sto → Option D) (f g : G D) : G D := fun ρ st => (f ρ st).bind fun d s1 => (g ρ s1).bind fun e s2 => oout (m d e s2) s2
def gUn (m : D → Sto → Option D) (f : G D) : G D := fun ρ st => (f ρ st).bind fun d s1 => oout (m d s1) s1
def aNil : G (List D) := fun _ st => .ok [] st
def aCons (f : G D) (g : G (List D)) : G (List D) := fun ρ st => (f ρ st).bind fun d s1 => (g ρ s1).bind fun ds s2 => .ok (d :: ds) s2
def gCB (m : List D → Sto → Option D) (f : G (List D)) : G D := fun ρ st => (f ρ st).bind fun ds s1 => oout (m ds s1) s1

section
variable {K : PySem.W.Frag} {mg : Str → Option Value} {W : WX} {β : Bx} {H : Hp} {σ : L2.St} {ρ : Env} {st : Sto}
theorem tD_intro {f : G D} {P : D → Sto → Prop} {E : Exn → Sto → Prop} {R : VK} (hρ : RepEnv K β H σ ρ) (hs : StoOk K β H st) (h : (f ρ st).sat P E)
    (hP : ∀ d st', P d st' → ∀ v β' H', Ext β H β' H' → StoOk K β' H' st' → Rep K β' H' v d → R v H') (hE : ∀ x st', E x st' → PostX K mg (fun c d H' => W c d σ H') β H x st') : tD K mg W f σ H R :=
  ⟨β, ρ, st, hρ, hs, h.mono hP hE⟩
theorem tDA_intro {f : G (List D)} {P : List D → Sto → Prop} {E : Exn → Sto → Prop} {R : List V → Hp → Prop} (hρ : RepEnv K β H σ ρ) (hs : StoOk K β H st) (h : (f ρ st).sat P E)
    (hP : ∀ d st', P d st' → ∀ v β' H', Ext β H β' H' → StoOk K β' H' st' → Reps K β' H' v d → R v H') (hE : ∀ x st', E x st' → PostX K mg (fun c d H' => W c d σ H') β H x st') : tDA K mg W f σ H R :=
  ⟨β, ρ, st, hρ, hs, h.mono hP hE⟩
theorem tDT_intro {f : G Bool} {P : Bool → Sto → Prop} {E : Exn → Sto → Prop} {R : Bool → Hp → Prop} (hρ : RepEnv K β H σ ρ) (hs : StoOk K β H st) (h : (f ρ st).sat P E)
    (hP : ∀ d st', P d st' → ∀ β' H', Ext β H β' H' → StoOk K β' H' st' → R d H') (hE : ∀ x st', E x st' → PostX K mg (fun c d H' => W c d σ H') β H x st') : tDT K mg W f σ H R :=
  ⟨β, ρ, st, hρ, hs, h.mono hP hE⟩
end

section
variable {X : Cx} {W : WX} {pos : Pos} {a b e : Expr} {es : List Expr} {f g : G D} {fs : G (List D)}
theorem de_var (i : Nat) {x : Str} (hN : X.N[i]? = some x := by rfl) (hv : Vis X.env.scope x := by first | exact Or.inl rfl | exact Or.inr (Or.inl rfl) | exact Or.inr (Or.inr rfl)) (hd : (x == ("__debug__" : Str)) = false := by decide)
    (hcd : (x == ("__classdict__" : Str)) = false := by decide) : DE X W (.Name x pos) (gVar i) := by
  refine PEmono (pe_var hN hv hd hcd) fun σ H Q h => ?_
  obtain ⟨β, ρ, st, hρ, hs, h⟩ := h
  unfold gVar at h
  split at h
  · rename_i d hd
    obtain ⟨v, hv, r⟩ := hρ.2 i d hd
    exact ⟨v, hv, h v β H (Ext.refl β H) hs r⟩
  · exact h.elim
theorem de_const {e : Expr} {v : V} {d : D} (h : PE X e (tC v)) (r : ∀ β H, Rep X.K β H v d) : DE X W e (gC d) := by
  refine PEmono h fun σ H Q h => ?_
  obtain ⟨β, ρ, st, hρ, hs, h⟩ := h
  exact h v β H (Ext.refl β H) hs (r β H)
theorem de_int {i j} : DE X W (.Constant (.int i) j pos) (gC (.int i)) := de_const pe_int fun _ _ => .int i
theorem de_bl {b j} : DE X W (.Constant (.bool b) j pos) (gC (.bl b)) := de_const pe_bl fun _ _ => .bl b
theorem de_non {j} : DE X W (.Constant .none j pos) (gC .non) := de_const pe_non fun _ _ => .non
theorem de_str {x j} : DE X W (.Constant (.str x) j pos) (gC (.str x)) := de_const pe_str fun _ _ => .str x
theorem de_glob {x : Str} {v : V} {u : Value} {d : D} (hg : Gl X x) (hm : X.mg x = some u) (r : RelV v u) (rd : ∀ β H, Rep X.K β H v d) (hd : (x == ("__debug__" : Str)) = false := by decide) : DE X W (.Name x pos) (gC d) := de_const (pe_glob hg hm r hd) rd
theorem de_type {x : Str} {T : String} (hg : Gl X x) (hm : X.mg x = none) (hv : bootBuiltins x = some (.type T)) (hn : x ≠ "__name__" := by decide) (hd : (x == ("__debug__" : Str)) = false := by decide) : DE X W (.Name x pos) (gC (.raw (.ty T))) :=
  de_const (pe_bltn hg hm hv (v := .ty T) rfl hn hd) fun _ _ => .raw _
theorem de_op {op : Operator} {r : R2} {m : D → D → Sto → Option D} (ho : OpR X (binaryOp op) r) (hm : OpD X.K r m) (ha : DE X W a f) (hb : DE X W b g) : DE X W (.BinOp a op b pos) (gOp m f g) := by
  refine PEmono (pe_op ho ha hb) fun σ H Q h => ?_
  obtain ⟨β, ρ, st, hρ, hs, h⟩ := h
  refine tD_intro hρ hs (Out.sat_bind h) (fun d s1 h1 v β1 H1 e1 S1 r1 => ?_) fun _ _ q => q
  refine tD_intro (hρ.ext e1) S1 (Out.sat_bind h1) (fun d2 s2 h2 v2 β2 H2 e2 S2 r2 => ?_) fun _ _ q => q.ext e1
  obtain ⟨d3, q, p⟩ := oout_sat h2
  exact hm β2 H2 s2 v v2 d d2 d3 Q (Rep.ext e2 _ _ r1) r2 S2 q fun w' H' s' r' => p w' β2 H' ((e1.trans e2).trans (Ext.same s')) (S2.same s') r'
theorem de_cmp {op : CmpOp} {r : R2} {m : D → D → Sto → Option D} (ho : OpR X (compareOp op) r) (hm : OpD X.K r m) (ha : DE X W a f) (hb : DE X W b g) (hb' : behindInMarks op b = false := by rfl) : DE X W (.Compare a [op] [b] pos) (gOp m f g) := by
  refine PEmono (pe_cmpR ho ha hb hb') fun σ H Q h => ?_
  obtain ⟨β, ρ, st, hρ, hs, h⟩ := h
  refine tD_intro hρ hs (Out.sat_bind h) (fun d s1 h1 v β1 H1 e1 S1 r1 => ?_) fun _ _ q => q
  refine tD_intro (hρ.ext e1) S1 (Out.sat_bind h1) (fun d2 s2 h2 v2 β2 H2 e2 S2 r2 => ?_) fun _ _ q => q.ext e1
  obtain ⟨d3, q, p⟩ := oout_sat h2
  exact hm β2 H2 s2 v v2 d d2 d3 Q (Rep.ext e2 _ _ r1) r2 S2 q fun w' H' s' r' => p w' β2 H' ((e1.trans e2).trans (Ext.same s')) (S2.same s') r'
theorem de_ix {r : R2} {m : D → D → Sto → Option D} (ho : IxR X r) (hm : OpD X.K r m) (ha : DE X W a f) (hb : DE X W b g) (hs' : PlainIx b := by exact fun _ _ => rfl) : DE X W (.Subscript a b pos) (gOp m f g) := by
  refine PEmono (pe_ix ho ha hb hs') fun σ H Q h => ?_
  obtain ⟨β, ρ, st, hρ, hs, h⟩ := h
  refine tD_intro hρ hs (Out.sat_bind h) (fun d s1 h1 v β1 H1 e1 S1 r1 => ?_) fun _ _ q => q
  refine tD_intro (hρ.ext e1) S1 (Out.sat_bind h1) (fun d2 s2 h2 v2 β2 H2 e2 S2 r2 => ?_) fun _ _ q => q.ext e1
  obtain ⟨d3, q, p⟩ := oout_sat h2
  exact hm β2 H2 s2 v v2 d d2 d3 Q (Rep.ext e2 _ _ r1) r2 S2 q fun w' H' s' r' => p w' β2 H' ((e1.trans e2).trans (Ext.same s')) (S2.same s') r'
theorem de_un {op : UnaryOp} {r : V → Hp → VK → Prop} {m : D → Sto → Option D} (ho : UnR X (unaryOp op) r) (hm : UnD X.K r m) (ha : DE X W a f) : DE X W (.UnaryOp op a pos) (gUn m f) := by
  refine PEmono (pe_un ho ha) fun σ H Q h => ?_
  obtain ⟨β, ρ, st, hρ, hs, h⟩ := h
  refine tD_intro hρ hs (Out.sat_bind h) (fun d s1 h1 v β1 H1 e1 S1 r1 => ?_) fun _ _ q => q
  obtain ⟨d3, q, p⟩ := oout_sat h1
  exact hm β1 H1 s1 v d d3 Q r1 S1 q fun w' H' s' r' => p w' β1 H' (e1.trans (Ext.same s')) (S1.same s') r'
theorem da_nil : DA X W [] aNil := by
  refine PAmono pa_nil fun σ H Q h => ?_
  obtain ⟨β, ρ, st, hρ, hs, h⟩ := h
  exact h [] β H (Ext.refl β H) hs .nil
theorem da_cons (ha : DE X W e f) (hr : DA X W es fs) (hs : starEach (e :: es) X.env = (false, eval e X.env) :: starEach es X.env := by rfl) : DA X W (e :: es) (aCons f fs) := by
  refine PAmono (pa_cons ha hr hs) fun σ H Q h => ?_
  obtain ⟨β, ρ, st, hρ, hs, h⟩ := h
  refine tD_intro hρ hs (Out.sat_bind h) (fun d s1 h1 v β1 H1 e1 S1 r1 => ?_) fun _ _ q => q
  refine tDA_intro (hρ.ext e1) S1 (Out.sat_bind h1) (fun d2 s2 h2 v2 β2 H2 e2 S2 r2 => ?_) fun _ _ q => q.ext e1
  exact h2 (v :: v2) β2 H2 (e1.trans e2) S2 (.cons (Rep.ext e2 _ _ r1) r2)
theorem de_callB {x : Str} {p : Pos} {id : String} {r : List V → Hp → VK → Prop} {m : List D → Sto → Option D} (hc : CallR X (.builtin id) r) (hm : CallD X.K r m) (hg : Gl X x) (hmg : X.mg x = none) (hv : bootBuiltins x = some (.builtin id)) (ha : DA X W (e :: es) fs) (hn : x ≠ "__name__" := by decide) (hdb : (x == ("__debug__" : Str)) = false := by decide)
    (he : starEach (e :: es) X.env = (false, eval e X.env) :: starEach es X.env := by rfl) (hpl : (backTo pos (starEach es X.env)).any (·.1) = false := by rfl) : DE X W (.Call (.Name x p) (e :: es) [] pos) (gCB m fs) := by
  refine PEmono (pe_callB hc hg hmg hv ha hn hdb he hpl) fun σ H Q h => ?_
  obtain ⟨β, ρ, st, hρ, hs, h⟩ := h
  refine tDA_intro hρ hs (Out.sat_bind h) (fun d s1 h1 v β1 H1 e1 S1 r1 => ?_) fun _ _ q => q
  obtain ⟨d3, q, p⟩ := oout_sat h1
  exact hm β1 H1 s1 v d d3 Q r1 S1 q fun w' H' s' r' => p w' β1 H' (e1.trans (Ext.same s')) (S1.same s') r'
theorem de_callTy {x : Str} {p : Pos} {T : String} {r : List V → Hp → VK → Prop} {m : List D → Sto → Option D} (hc : CallR X (.type T) r) (hm : CallD X.K r m) (hg : Gl X x) (hmg : X.mg x = none) (hv : bootBuiltins x = some (.type T)) (ha : DA X W (e :: es) fs) (hn : x ≠ "__name__" := by decide) (hdb : (x == ("__debug__" : Str)) = false := by decide)
    (he : starEach (e :: es) X.env = (false, eval e X.env) :: starEach es X.env := by rfl) (hpl : (backTo pos (starEach es X.env)).any (·.1) = false := by rfl) : DE X W (.Call (.Name x p) (e :: es) [] pos) (gCB m fs) := by
  refine PEmono (pe_callTy hc hg hmg hv ha hn hdb he hpl) fun σ H Q h => ?_
  obtain ⟨β, ρ, st, hρ, hs, h⟩ := h
  refine tDA_intro hρ hs (Out.sat_bind h) (fun d s1 h1 v β1 H1 e1 S1 r1 => ?_) fun _ _ q => q
  obtain ⟨d3, q, p⟩ := oout_sat h1
  exact hm β1 H1 s1 v d d3 Q r1 S1 q fun w' H' s' r' => p w' β1 H' (e1.trans (Ext.same s')) (S1.same s') r'

/-! ### displays: tuples, lists that are never written, lists that are -/
def gTupD (f : G (List D)) : G D := fun ρ st => (f ρ st).bind fun ds s1 => if ds.length ≤ 1000 then .ok (.tup ds) s1 else .bad
def gLstD (f : G (List D)) : G D := fun ρ st => (f ρ st).bind fun ds s1 => if ds.length ≤ 1000 then .ok (.lst ds) s1 else .bad
def gLstM (f : G (List D)) : G D := fun ρ st => (f ρ st).bind fun ds s1 => if ds.length ≤ 1000 then .ok (.ref s1.length) (s1 ++ [.lst ds]) else .bad
theorem le1000 {n : Nat} (h : n ≤ 1000) : n ≤ sizeLine := Nat.le_of_lt (small1000 h)
theorem de_tup {x1} (h : DA X W es fs) : DE X W (.Tuple es x1 pos) (gTupD fs) := by
  refine PEmono (pe_tup h) fun σ H Q h => ?_
  obtain ⟨β, ρ, st, hρ, hs, h⟩ := h
  refine tDA_intro hρ hs (Out.sat_bind h) (fun d s1 h1 v β1 H1 e1 S1 r1 => ?_) fun _ _ q => q
  split at h1
  · rename_i hz
    have hl := r1.length
    refine ⟨by rw [hl]; exact le1000 hz, fun p hp => ?_⟩
    exact h1 (.ref p) β1 _ (e1.trans (Ext.new hp)) (S1.fresh hp) (.tup (.inl (.inl upd_same)) (Reps.ext (Ext.new hp) _ _ r1) (le1000 hz))
  · exact h1.elim
theorem de_lst (h : DA X W es fs) : DE X W (.List es pos) (gLstD fs) := by
  refine PEmono (pe_lst h) fun σ H Q h => ?_
  obtain ⟨β, ρ, st, hρ, hs, h⟩ := h
  refine tDA_intro hρ hs (Out.sat_bind h) (fun d s1 h1 v β1 H1 e1 S1 r1 => ?_) fun _ _ q => q
  split at h1
  · rename_i hz
    have hl := r1.length
    refine ⟨by rw [hl]; exact le1000 hz, fun p hp => ?_⟩
    exact h1 (.ref p) β1 _ (e1.trans (Ext.new hp)) (S1.fresh hp) (.lst upd_same (S1.nmem hp) (Reps.ext (Ext.new hp) _ _ r1) (le1000 hz))
  · exact h1.elim
/-- a new written thing at p -/
def Bx.add (β : Bx) (p : Addr) : Bx := ⟨β.lo ++ [p], β.pv⟩
theorem Ext.grow {β : Bx} {H : Hp} {p : Addr} {o : HO} (hp : H p = none) : Ext β H (β.add p) (upd H p o) :=
  ⟨⟨[p], rfl, fun q hq => by rw [List.mem_singleton.mp hq]; exact Free.none hp⟩, rfl, fun b u _ h _ => same_new hp _ _ h, fun _ _ h => same_new hp _ _ h, fun _ _ _ h => same_new hp _ _ h, fun _ u h n => ⟨u, same_new hp _ _ h, n⟩, fun _ _ h => same_new hp _ _ h⟩
theorem StoOk.grow {K : PySem.W.Frag} {β : Bx} {H : Hp} {st : Sto} {p : Addr} {o : HO} {so : SO} (S : StoOk K β H st) (hp : H p = none) (r : SORel K (β.add p) (upd H p o) p so) : StoOk K (β.add p) (upd H p o) (st ++ [so]) := by
  have e := Ext.grow (β := β) (o := o) hp
  refine ⟨by simp [Bx.add, S.len], ?_, fun n a u h1 h2 => ?_, fun q hq => let ⟨u, hu, n⟩ := S.priv q hq; ⟨u, same_new hp _ _ hu, n⟩⟩
  · exact List.nodup_append.mpr ⟨S.nd, by simp, fun x hx y hy => by rw [List.mem_singleton.mp hy]; exact fun z => (S.nmem hp).1 (z ▸ hx)⟩
  · have h1 : (β.lo ++ [p])[n]? = Option.some a := h1
    by_cases hn : n < β.lo.length
    · rw [List.getElem?_append_left hn] at h1
      rw [List.getElem?_append_left (by rw [← S.len]; exact hn)] at h2
      have q := S.obj n a u h1 h2
      cases u with
      | lst ds => obtain ⟨xs, h, r⟩ := q; exact ⟨xs, same_new hp _ _ h, Reps.ext e _ _ r⟩
      | dK kvs => obtain ⟨vs, h, l, k, r⟩ := q; exact ⟨vs, same_new hp _ _ h, l, k, Reps.ext e _ _ r⟩
      | tab t => exact ⟨q.1, q.2.ext (same_new hp)⟩
    · have hn' : n = β.lo.length := by
        have := (List.getElem?_eq_some_iff.mp h1).1
        simp at this
        omega
      subst hn'
      rw [List.getElem?_append_right (Nat.le_refl _)] at h1
      rw [S.len, List.getElem?_append_right (Nat.le_refl _)] at h2
      simp at h1 h2
      subst h1 h2
      exact r
theorem de_lstM (h : DA X W es fs) : DE X W (.List es pos) (gLstM fs) := by
  refine PEmono (pe_lst h) fun σ H Q h => ?_
  obtain ⟨β, ρ, st, hρ, hs, h⟩ := h
  refine tDA_intro hρ hs (Out.sat_bind h) (fun d s1 h1 v β1 H1 e1 S1 r1 => ?_) fun _ _ q => q
  split at h1
  · rename_i hz
    have hl := r1.length
    refine ⟨by rw [hl]; exact le1000 hz, fun p hp => ?_⟩
    refine h1 (.ref p) (β1.add p) _ (e1.trans (Ext.grow hp)) (S1.grow hp ⟨v, upd_same, Reps.ext (Ext.grow hp) _ _ r1⟩) (.ref ?_)
    rw [← S1.len]
    simp [Bx.add]
  · exact h1.elim
end
end DL

set_option Elab.async false
set_option linter.all false
set_option maxRecDepth 100000
set_option maxHeartbeats 2000000
namespace DL
open PySem PySem.Spec L2
open PyProof.Rows hiding St
abbrev LIM : Nat := 1000000
theorem leLIM {n : Nat} (h : n ≤ LIM) : n ≤ sizeLine := by rw [sizeLine_eq]; exact Nat.le_trans h (by decide)

/-! ### the operators by data -/
def mAdd : D → D → Sto → Option D
  | .int i, .int j, _ => some (.int (i + j))
  | .str x, .str y, _ => if x.length + y.length ≤ LIM then some (.str (x ++ y)) else none
  | .tup a, .tup b, _ => if a.length + b.length ≤ LIM then some (.tup (a ++ b)) else none
  | .lst a, .lst b, _ => if a.length + b.length ≤ LIM then some (.lst (a ++ b)) else none
  | _, _, _ => none
def mSub : D → D → Sto → Option D
  | .int i, .int j, _ => some (.int (i - j))
  | _, _, _ => none
def mMul : D → D → Sto → Option D
  | .int i, .int j, _ => if -(2 ^ 64) < j ∧ j < 2 ^ 64 then some (.int (i * j)) else none
  | .lst a, .int k, _ => if 0 ≤ k ∧ k ≤ 1000 ∧ a.length ≤ 1000 then some (.lst (List.replicate k.toNat a).flatten) else none
  | _, _, _ => none
def mMod : D → D → Sto → Option D
  | .int i, .int j, _ => if 0 < j then some (.int (i % j)) else none
  | _, _, _ => none
def mFdiv : D → D → Sto → Option D
  | .int i, .int j, _ => if 0 < j ∧ j < 1073741824 then some (.int (i / j)) else none
  | _, _, _ => none
def mPow : D → D → Sto → Option D
  | .int i, .int j, _ => if 0 ≤ j ∧ j ≤ 1000000 ∧ i.natAbs < 2 ^ 64 then some (.int (i ^ j.toNat)) else none
  | _, _, _ => none
def mLt : D → D → Sto → Option D
  | .int i, .int j, _ => some (.bl (decide (i < j)))
  | _, _, _ => none
def mLe : D → D → Sto → Option D
  | .int i, .int j, _ => some (.bl (decide (i ≤ j)))
  | _, _, _ => none
def mGt : D → D → Sto → Option D
  | .int i, .int j, _ => some (.bl (decide (j < i)))
  | _, _, _ => none
def mGe : D → D → Sto → Option D
  | .int i, .int j, _ => some (.bl (decide (j ≤ i)))
  | _, _, _ => none
def eqD (x y : D) : Bool := PyData.eqv x.py y.py
def okD (x : D) : Bool := SeqAt.shaped x.py
def mEq : D → D → Sto → Option D := fun x y _ => if okD x && okD y then some (.bl (eqD x y)) else none
def mNe : D → D → Sto → Option D := fun x y _ => if okD x && okD y then some (.bl (!eqD x y)) else none
def mIs : D → D → Sto → Option D
  | x, .non, _ => match x with
    | .raw _ => none
    | .non => some (.bl true)
    | _ => some (.bl false)
  | .bl a, .bl b, _ => some (.bl (decide (a = b)))
  | _, _, _ => none
def mIsNot : D → D → Sto → Option D
  | x, .non, _ => match x with
    | .raw _ => none
    | .non => some (.bl false)
    | _ => some (.bl true)
  | .bl a, .bl b, _ => some (.bl (!decide (a = b)))
  | _, _, _ => none
def inStr (x y : Str) : Bool := !(Builtin.Str.occurrences y x 0 y.length 1).isEmpty
def mIn (neg : Bool) : D → D → Sto → Option D
  | .str x, .str y, _ => some (.bl (if neg then !inStr x y else inStr x y))
  | x, .tup l, _ => if okD x && okD (.tup l) then some (.bl (if neg then !l.any fun z => eqD z x else l.any fun z => eqD z x)) else none
  | x, .lst l, _ => if okD x && okD (.lst l) then some (.bl (if neg then !l.any fun z => eqD z x else l.any fun z => eqD z x)) else none
  | x, .ro l, _ => if okD x && okD (.ro l) then some (.bl (if neg then !l.any fun z => eqD z x else l.any fun z => eqD z x)) else none
  | _, _, _ => none
theorem pys_map : ∀ l : List D, D.pys l = l.map D.py
  | [] => by simp [D.pys]
  | d :: l => by simp [D.pys, pys_map l]

section
variable {X : Cx} {K : PySem.W.Frag}
/-! #### + -/
abbrev rAddD (K : PySem.W.Frag) : R2 := fun x y H Q => rI0 (fun i j => .int (i + j)) x y H Q ∨ (fun x y H Q => (∃ i j, x = .str i ∧ y = .str j ∧ i.length + j.length ≤ sizeLine ∧ Q (.str (i ++ j)) H) ∨ (fun x y H Q => rCatA K x y H Q ∨ rCat x y H Q) x y H Q) x y H Q
theorem or_add : OpR X (binaryOp .Add) (rAddD X.K) := op_add.or (op_add_str.or (op_catA.or op_cat))
theorem od_add : OpD K (rAddD K) mAdd := by
  intro β H st x y dx dy d Q rx ry S e q
  cases dx <;> cases dy <;> simp only [mAdd, Option.some.injEq, reduceCtorEq] at e
  case int.int i j =>
    cases rx; cases ry; subst e
    exact .inl ⟨_, _, rfl, rfl, q _ _ (Same.refl H) (.int _)⟩
  case str.str a b =>
    cases rx; cases ry
    split at e
    · rename_i hz
      have e := Option.some.inj e
      subst e
      exact .inr (.inl ⟨_, _, rfl, rfl, leLIM hz, q _ _ (Same.refl H) (.str _)⟩)
    · cases e
  case tup.tup a b =>
    cases rx with
    | tup h1 h2 h3 =>
      cases ry with
      | tup g1 g2 g3 =>
        rename_i p xs p' ys
        split at e
        · rename_i hz
          have e := Option.some.inj e
          subst e
          have hl : xs.length + ys.length ≤ LIM := by rw [h2.length, g2.length]; exact hz
          refine .inr (.inr (.inl ⟨_, _, _, _, rfl, rfl, h1, g1, leLIM hl, fun e0 => ?_, fun e0 e1 => ?_, fun e0 e1 p hp => ?_⟩))
          · subst e0
            cases h2
            exact q _ _ (Same.refl H) (.tup g1 g2 g3)
          · subst e1
            cases g2
            simp only [List.append_nil] at q
            exact q _ _ (Same.refl H) (.tup h1 h2 h3)
          · exact q _ _ (same_new hp) (.tup (.inl (.inl upd_same)) (Reps.ext (Ext.new hp) _ _ (h2.append g2)) (by rw [List.length_append]; exact leLIM hz))
        · cases e
  case lst.lst a b =>
    cases rx with
    | lst h1 hn h2 h3 =>
      cases ry with
      | lst g1 gn g2 g3 =>
        rename_i p xs p' ys
        split at e
        · rename_i hz
          have e := Option.some.inj e
          subst e
          have hl : xs.length + ys.length ≤ LIM := by rw [h2.length, g2.length]; exact hz
          refine .inr (.inr (.inr ⟨_, _, _, _, rfl, rfl, h1, g1, leLIM hl, fun p hp => ?_⟩))
          exact q _ _ (same_new hp) (.lst upd_same (S.nmem hp) (Reps.ext (Ext.new hp) _ _ (h2.append g2)) (by rw [List.length_append]; exact leLIM hz))
        · cases e
/-! #### ints -/
theorem od_sub : OpD K (rI0 fun i j => .int (i - j)) mSub := by
  intro β H st x y dx dy d Q rx ry S e q
  cases dx <;> cases dy <;> simp only [mSub, Option.some.injEq, reduceCtorEq] at e
  cases rx; cases ry; subst e
  exact ⟨_, _, rfl, rfl, q _ _ (Same.refl H) (.int _)⟩
theorem od_mod : OpD K (rI (fun _ j => 0 < j) fun i j => .int (i % j)) mMod := by
  intro β H st x y dx dy d Q rx ry S e q
  cases dx <;> cases dy <;> simp only [mMod, Option.some.injEq, reduceCtorEq] at e
  split at e
  · rename_i hz
    have e := Option.some.inj e
    cases rx; cases ry; subst e
    exact ⟨_, _, rfl, rfl, hz, q _ _ (Same.refl H) (.int _)⟩
  · cases e
theorem od_fdiv : OpD K (rI CDiv fun i j => .int (i / j)) mFdiv := by
  intro β H st x y dx dy d Q rx ry S e q
  cases dx <;> cases dy <;> simp only [mFdiv, Option.some.injEq, reduceCtorEq] at e
  split at e
  · rename_i hz
    have e := Option.some.inj e
    cases rx; cases ry; subst e
    exact ⟨_, _, rfl, rfl, hz, q _ _ (Same.refl H) (.int _)⟩
  · cases e
theorem od_pow : OpD K (rI CPow fun i j => .int (i ^ j.toNat)) mPow := by
  intro β H st x y dx dy d Q rx ry S e q
  cases dx <;> cases dy <;> simp only [mPow, Option.some.injEq, reduceCtorEq] at e
  split at e
  · rename_i hz
    have e := Option.some.inj e
    cases rx; cases ry; subst e
    exact ⟨_, _, rfl, rfl, hz, q _ _ (Same.refl H) (.int _)⟩
  · cases e
abbrev rMulD : R2 := fun x y H Q => rI CMul (fun i j => .int (i * j)) x y H Q ∨ rRep x y H Q
theorem or_mul : OpR X (binaryOp .Mult) rMulD := op_mul.or op_rep
theorem lt_od {r : R2} {m : D → D → Sto → Option D} {p : Int → Int → Bool} (hm : ∀ x y st d, m x y st = some d → ∃ i j, x = .int i ∧ y = .int j ∧ d = .bl (p i j)) : OpD K (rI0 fun i j => .bl (p i j)) m := by
  intro β H st x y dx dy d Q rx ry S e q
  obtain ⟨i, j, rfl, rfl, rfl⟩ := hm _ _ _ _ e
  cases rx; cases ry
  exact ⟨_, _, rfl, rfl, q _ _ (Same.refl H) (.bl _)⟩
theorem od_lt : OpD K (rI0 fun i j => .bl (decide (i < j))) mLt := lt_od (r := rI0 fun i j => .bl (decide (i < j))) fun x y st d e => by
  cases x <;> cases y <;> simp only [mLt, Option.some.injEq, reduceCtorEq] at e
  exact ⟨_, _, rfl, rfl, e.symm⟩
theorem od_le : OpD K (rI0 fun i j => .bl (decide (i ≤ j))) mLe := lt_od (r := rI0 fun i j => .bl (decide (i ≤ j))) fun x y st d e => by
  cases x <;> cases y <;> simp only [mLe, Option.some.injEq, reduceCtorEq] at e
  exact ⟨_, _, rfl, rfl, e.symm⟩
theorem od_gt : OpD K (rI0 fun i j => .bl (decide (j < i))) mGt := lt_od (r := rI0 fun i j => .bl (decide (j < i))) fun x y st d e => by
  cases x <;> cases y <;> simp only [mGt, Option.some.injEq, reduceCtorEq] at e
  exact ⟨_, _, rfl, rfl, e.symm⟩
theorem od_ge : OpD K (rI0 fun i j => .bl (decide (j ≤ i))) mGe := lt_od (r := rI0 fun i j => .bl (decide (j ≤ i))) fun x y st d e => by
  cases x <;> cases y <;> simp only [mGe, Option.some.injEq, reduceCtorEq] at e
  exact ⟨_, _, rfl, rfl, e.symm⟩
theorem canLay_of_ok {x : D} (h : okD x = true) : x.py.canLay0 = true := SeqAt.canLay_of_shaped h
theorem od_eq : OpD K (rEqD K) mEq := by
  intro β H st x y dx dy d Q rx ry S e q
  unfold mEq at e
  split at e
  · rename_i hz
    have e := Option.some.inj e
    subst e
    rw [Bool.and_eq_true] at hz
    exact ⟨dx.py, dy.py, Rep.dp _ _ (canLay_of_ok hz.1) rx, Rep.dp _ _ (canLay_of_ok hz.2) ry, hz.1, hz.2, q _ _ (Same.refl H) (.bl _)⟩
  · cases e
theorem od_ne : OpD K (rNeD K) mNe := by
  intro β H st x y dx dy d Q rx ry S e q
  unfold mNe at e
  split at e
  · rename_i hz
    have e := Option.some.inj e
    subst e
    rw [Bool.and_eq_true] at hz
    exact ⟨dx.py, dy.py, Rep.dp _ _ (canLay_of_ok hz.1) rx, Rep.dp _ _ (canLay_of_ok hz.2) ry, hz.1, hz.2, q _ _ (Same.refl H) (.bl _)⟩
  · cases e
/-! #### is -/
def notNon : V → Bool
  | .non => false
  | _ => true
abbrev rIsD : R2 := fun x y H Q => (y = .non ∧ Q (.bl (decide (x = .non))) H) ∨ rIsB x y H Q
abbrev rIsND : R2 := fun x y H Q => (y = .non ∧ Q (.bl (!decide (x = .non))) H) ∨ rNotB x y H Q
theorem or_is : OpR X (compareOp .Is) rIsD := op_isN.or op_isBl
theorem or_isnot : OpR X (compareOp .IsNot) rIsND := op_notN.or op_notBl
theorem od_is : OpD K rIsD mIs := by
  intro β H st x y dx dy d Q rx ry S e q
  cases dy with
  | non =>
    cases ry
    cases dx <;> simp only [mIs, Option.some.injEq, reduceCtorEq] at e
    all_goals (subst e; cases rx; exact .inl ⟨rfl, q _ _ (Same.refl H) (.bl _)⟩)
  | bl b =>
    cases dx <;> simp only [mIs, Option.some.injEq, reduceCtorEq] at e
    cases rx; cases ry
    subst e
    exact .inr ⟨_, _, rfl, rfl, q _ _ (Same.refl H) (.bl _)⟩
  | _ => cases dx <;> simp only [mIs, reduceCtorEq] at e
theorem od_isnot : OpD K rIsND mIsNot := by
  intro β H st x y dx dy d Q rx ry S e q
  cases dy with
  | non =>
    cases ry
    cases dx <;> simp only [mIsNot, Option.some.injEq, reduceCtorEq] at e
    all_goals (subst e; cases rx; exact .inl ⟨rfl, q _ _ (Same.refl H) (.bl _)⟩)
  | bl b =>
    cases dx <;> simp only [mIsNot, Option.some.injEq, reduceCtorEq] at e
    cases rx; cases ry
    subst e
    exact .inr ⟨_, _, rfl, rfl, q _ _ (Same.refl H) (.bl _)⟩
  | _ => cases dx <;> simp only [mIsNot, reduceCtorEq] at e
/-! #### in -/
def rInTD (K : PySem.W.Frag) (neg : Bool) : R2 := fun x y H Q => ∃ d ds, Dp K H x d ∧ Dp K H y (.tuple ds) ∧ SeqAt.shaped d = true ∧ SeqAt.shaped (.tuple ds) = true ∧ Q (.bl (if neg then !ds.any fun z => PyData.eqv z d else ds.any fun z => PyData.eqv z d)) H
theorem room_in_tup {A : Around} {xs : List PyData} {d : PyData} (h : SeqAt.shaped d = true) (hu : A.units + 65 < cLine) : A.units + 1 + min (PyData.depthAll xs) d.depth < cLine := by
  have h1 := SeqAt.depth_of_shaped h
  have h2 : min (PyData.depthAll xs) d.depth ≤ d.depth := Nat.min_le_right _ _
  omega
theorem op_inTD (hu : X.A.units + 65 < cLine) : OpR X (compareOp .In) (rInTD X.K false) := by
  intro pins s σ H x y v u Q I rx ry h
  obtain ⟨d, ds, hd, he, sd, se, q⟩ := h
  obtain ⟨as, r1⟩ := Dp.reads I d x v hd rx
  obtain ⟨bs, r2⟩ := Dp.reads I (.tuple ds) y u he ry
  exact SeqAt.in_tuple_reads r2 r1 (SeqAt.canLay_of_shaped se) (SeqAt.canLay_of_shaped sd) (room_in_tup sd hu) ⟨.bl _, H, I, rfl, q⟩
theorem op_notInTD (hu : X.A.units + 65 < cLine) : OpR X (compareOp .NotIn) (rInTD X.K true) := by
  intro pins s σ H x y v u Q I rx ry h
  obtain ⟨d, ds, hd, he, sd, se, q⟩ := h
  obtain ⟨as, r1⟩ := Dp.reads I d x v hd rx
  obtain ⟨bs, r2⟩ := Dp.reads I (.tuple ds) y u he ry
  exact SeqAt.notIn_tuple_reads r2 r1 (SeqAt.canLay_of_shaped se) (SeqAt.canLay_of_shaped sd) (room_in_tup sd hu) ⟨.bl _, H, I, rfl, q⟩
abbrev rInDD (K : PySem.W.Frag) (neg : Bool) : R2 := fun x y H Q => (∃ i j, x = .str i ∧ y = .str j ∧ Q (.bl (if neg then !inStr i j else inStr i j)) H) ∨ (fun x y H Q => rInTD K neg x y H Q ∨
  (∃ d ds, Dp K H x d ∧ Dp K H y (.list ds) ∧ SeqAt.shaped d = true ∧ SeqAt.shaped (.list ds) = true ∧ Q (.bl (if neg then !ds.any fun z => PyData.eqv z d else ds.any fun z => PyData.eqv z d)) H)) x y H Q
theorem or_in (hu : X.A.units + 65 < cLine) : OpR X (compareOp .In) (rInDD X.K false) := op_in_str.or ((op_inTD hu).or (op_inD hu))
theorem or_notin (hu : X.A.units + 65 < cLine) : OpR X (compareOp .NotIn) (rInDD X.K true) := op_notin_str.or ((op_notInTD hu).or (op_notInD hu))
theorem any_py (l : List D) (x : D) : (D.pys l).any (fun z => PyData.eqv z x.py) = l.any fun z => eqD z x := by
  rw [pys_map, List.any_map]
  rfl
theorem od_in (neg : Bool) : OpD K (rInDD K neg) (mIn neg) := by
  intro β H st x y dx dy d Q rx ry S e q
  have seq : ∀ (l : List D) (c : PyData), c = .tuple (D.pys l) ∨ c = .list (D.pys l) → Dp K H y c → SeqAt.shaped c = true → okD dx = true → d = .bl (if neg then !l.any fun z => eqD z dx else l.any fun z => eqD z dx) → rInDD K neg x y H Q := fun l c hc hy ho hx ed => by
    subst ed
    rcases hc with rfl | rfl
    · exact .inr (.inl ⟨dx.py, D.pys l, Rep.dp _ _ (canLay_of_ok hx) rx, hy, hx, ho, by rw [any_py]; exact q _ _ (Same.refl H) (.bl _)⟩)
    · exact .inr (.inr ⟨dx.py, D.pys l, Rep.dp _ _ (canLay_of_ok hx) rx, hy, hx, ho, by rw [any_py]; exact q _ _ (Same.refl H) (.bl _)⟩)
  cases dy with
  | str b =>
    cases dx <;> simp only [mIn, Option.some.injEq, reduceCtorEq] at e
    cases rx; cases ry; subst e
    exact .inl ⟨_, _, rfl, rfl, q _ _ (Same.refl H) (.bl _)⟩
  | tup l =>
    have e : (if okD dx && okD (.tup l) then some (D.bl (if neg then !l.any fun z => eqD z dx else l.any fun z => eqD z dx)) else none) = some d := by
      cases dx <;> exact e
    split at e
    · rename_i hz
      rw [Bool.and_eq_true] at hz
      have c := Rep.dp _ _ (canLay_of_ok hz.2) ry
      simp only [D.py] at c
      have o2 := hz.2
      simp only [okD, D.py] at o2
      exact seq l _ (.inl rfl) c o2 hz.1 (Option.some.inj e).symm
    · cases e
  | lst l =>
    have e : (if okD dx && okD (.lst l) then some (D.bl (if neg then !l.any fun z => eqD z dx else l.any fun z => eqD z dx)) else none) = some d := by
      cases dx <;> exact e
    split at e
    · rename_i hz
      rw [Bool.and_eq_true] at hz
      have c := Rep.dp _ _ (canLay_of_ok hz.2) ry
      simp only [D.py] at c
      have o2 := hz.2
      simp only [okD, D.py] at o2
      exact seq l _ (.inr rfl) c o2 hz.1 (Option.some.inj e).symm
    · cases e
  | ro l =>
    have e : (if okD dx && okD (.ro l) then some (D.bl (if neg then !l.any fun z => eqD z dx else l.any fun z => eqD z dx)) else none) = some d := by
      cases dx <;> exact e
    split at e
    · rename_i hz
      rw [Bool.and_eq_true] at hz
      have c := Rep.dp _ _ (canLay_of_ok hz.2) ry
      simp only [D.py] at c
      have o2 := hz.2
      simp only [okD, D.py] at o2
      exact seq l _ (.inr rfl) c o2 hz.1 (Option.some.inj e).symm
    · cases e
  | _ => cases dx <;> simp only [mIn, reduceCtorEq] at e
end
end DL

set_option Elab.async false
set_option linter.all false
set_option maxRecDepth 100000
set_option maxHeartbeats 2000000
namespace DL
open PySem PySem.Spec L2
open PyProof.Rows hiding St

theorem reps_flatten {K : PySem.W.Frag} {β : Bx} {H : Hp} {xs : List V} {ds : List D} (r : Reps K β H xs ds) : ∀ k : Nat, Reps K β H (List.replicate k xs).flatten (List.replicate k ds).flatten
  | 0 => .nil
  | k + 1 => by
    rw [List.replicate_succ, List.replicate_succ, List.flatten_cons, List.flatten_cons]
    exact r.append (reps_flatten r k)
theorem len_flatten {α : Type} (xs : List α) : ∀ k : Nat, (List.replicate k xs).flatten.length = xs.length * k
  | 0 => by simp
  | k + 1 => by rw [List.replicate_succ, List.flatten_cons, List.length_append, len_flatten xs k, Nat.mul_succ, Nat.add_comm]
theorem od_mul {K : PySem.W.Frag} : OpD K rMulD mMul := by
  intro β H st x y dx dy d Q rx ry S e q
  cases dx <;> cases dy <;> simp only [mMul, Option.some.injEq, reduceCtorEq] at e
  case int.int i j =>
    split at e
    · rename_i hz
      have e := Option.some.inj e
      cases rx; cases ry; subst e
      exact .inl ⟨_, _, rfl, rfl, .inr hz, q _ _ (Same.refl H) (.int _)⟩
    · cases e
  case lst.int a k =>
    split at e
    · rename_i hz
      have e := Option.some.inj e
      cases ry; subst e
      cases rx with
      | lst h1 hn h2 h3 =>
        rename_i p xs
        have hl := h2.length
        have hk : k.toNat ≤ 1000 := by omega
        have hm : a.length * k.toNat ≤ 1000 * 1000 := Nat.mul_le_mul hz.2.2 hk
        refine .inr ⟨_, _, xs, rfl, rfl, h1, by omega, by omega, by rw [hl]; exact leLIM hm, fun p hp => ?_⟩
        exact q _ _ (same_new hp) (.lst upd_same (S.nmem hp) (Reps.ext (Ext.new hp) _ _ (reps_flatten h2 _)) (by rw [len_flatten]; exact leLIM hm))
    · cases e

/-! ### truth -/
def mTru : D → Sto → Option Bool
  | .non, _ => some false
  | .bl b, _ => some b
  | .int i, _ => some (i != 0)
  | .str x, _ => if x.length ≤ LIM then some ((x.length : Int) != 0) else none
  | .tup l, _ => some (!l.isEmpty)
  | .lst l, _ => some (!l.isEmpty)
  | .ro l, _ => some (!l.isEmpty)
  | .ref n, st => match st[n]? with
    | some (.lst l) => some (!l.isEmpty)
    | some (.dK l) => some (!l.isEmpty)
    | some (.tab _) => none
    | none => none
  | .raw _, _ => none
theorem Reps.empty {K : PySem.W.Frag} {β : Bx} {H : Hp} {vs : List V} {ds : List D} (h : Reps K β H vs ds) : (!ds.isEmpty) = !vs.isEmpty := by cases h <;> rfl
theorem tru_d {K : PySem.W.Frag} {β : Bx} {H : Hp} {st : Sto} {x : V} {d : D} {b : Bool} (r : Rep K β H x d) (S : StoOk K β H st) (e : mTru d st = some b) : TruV K x H b := by
  cases d with
  | non => cases r; exact (Option.some.inj e).symm
  | bl c => cases r; exact (Option.some.inj e).symm
  | int i => cases r; exact (Option.some.inj e).symm
  | str y =>
    cases r
    simp only [mTru] at e
    split at e
    · rename_i hz
      exact ⟨leLIM hz, (Option.some.inj e).symm⟩
    · cases e
  | tup l => cases r with | tup h1 h2 h3 => exact .inr (.inl ⟨_, h1, (Option.some.inj e).symm.trans h2.empty⟩)
  | lst l => cases r with | lst h1 hn h2 h3 => exact .inl ⟨_, SqL.of h1, (Option.some.inj e).symm.trans h2.empty⟩
  | ro l => cases r with | ro h1 h2 h3 => exact .inl ⟨_, h1.sqL, (Option.some.inj e).symm.trans h2.empty⟩
  | ref n =>
    cases r with
    | ref hm =>
      obtain ⟨o, ho, rel⟩ := S.get hm
      simp only [mTru, ho] at e
      cases o with
      | lst l =>
        obtain ⟨xs, h, r⟩ := rel
        exact .inl ⟨_, SqL.of h, (Option.some.inj e).symm.trans r.empty⟩
      | dK l =>
        obtain ⟨vs, h, hl, _⟩ := rel
        refine .inr (.inr ⟨vs, h, (Option.some.inj e).symm.trans ?_⟩)
        cases vs <;> cases l <;> simp_all
      | tab q => cases e
  | raw v => cases e
section
variable {X : Cx} {W : WX} {pos : Pos} {a b c e : Expr} {rest es : List Expr} {f g : G D} {t u : G Bool} {fs : G (List D)}
def gAnd (f g : G D) : G D := fun ρ st => (f ρ st).bind fun d s1 => (oout (mTru d s1) s1).bind fun k s1 => if k then g ρ s1 else .ok d s1
def gOr (f g : G D) : G D := fun ρ st => (f ρ st).bind fun d s1 => (oout (mTru d s1) s1).bind fun k s1 => if k then .ok d s1 else g ρ s1
def gNot (f : G D) : G D := fun ρ st => (f ρ st).bind fun d s1 => (oout (mTru d s1) s1).bind fun k s1 => .ok (.bl !k) s1
def gTr (f : G D) : G Bool := fun ρ st => (f ρ st).bind fun d s1 => oout (mTru d s1) s1
def gIf (t : G Bool) (f g : G D) : G D := fun ρ st => (t ρ st).bind fun k s1 => if k then f ρ s1 else g ρ s1
def gTNot (t : G Bool) : G Bool := fun ρ st => (t ρ st).bind fun k s1 => .ok (!k) s1
def gTAnd (t u : G Bool) : G Bool := fun ρ st => (t ρ st).bind fun k s1 => if k then u ρ s1 else .ok false s1
def gTOr (t u : G Bool) : G Bool := fun ρ st => (t ρ st).bind fun k s1 => if k then .ok true s1 else u ρ s1
theorem de_one {op} (h : DE X W a f) : DE X W (.BoolOp op [a] pos) f := pe_one h
theorem de_and (ha : DE X W a f) (hb : DE X W (.BoolOp .And (b :: rest) pos) g) : DE X W (.BoolOp .And (a :: b :: rest) pos) (gAnd f g) := by
  refine PEmono (pe_andT ha hb) fun σ H Q h => ?_
  obtain ⟨β, ρ, st, hρ, hs, h⟩ := h
  refine tD_intro hρ hs (Out.sat_bind h) (fun d s1 h1 v β1 H1 e1 S1 r1 => ?_) fun _ _ q => q
  obtain ⟨k, q, p⟩ := oout_sat (Out.sat_bind h1)
  refine ⟨k, tru_d r1 S1 q, ?_⟩
  cases k with
  | true => exact ⟨β1, ρ, s1, hρ.ext e1, S1, Out.sat.mono p (fun _ _ z => z.ext e1) fun _ _ z => z.ext e1⟩
  | false => exact p v β1 H1 e1 S1 r1
theorem de_or (ha : DE X W a f) (hb : DE X W (.BoolOp .Or (b :: rest) pos) g) : DE X W (.BoolOp .Or (a :: b :: rest) pos) (gOr f g) := by
  refine PEmono (pe_orT ha hb) fun σ H Q h => ?_
  obtain ⟨β, ρ, st, hρ, hs, h⟩ := h
  refine tD_intro hρ hs (Out.sat_bind h) (fun d s1 h1 v β1 H1 e1 S1 r1 => ?_) fun _ _ q => q
  obtain ⟨k, q, p⟩ := oout_sat (Out.sat_bind h1)
  refine ⟨k, tru_d r1 S1 q, ?_⟩
  cases k with
  | false => exact ⟨β1, ρ, s1, hρ.ext e1, S1, Out.sat.mono p (fun _ _ z => z.ext e1) fun _ _ z => z.ext e1⟩
  | true => exact p v β1 H1 e1 S1 r1
theorem de_not (ha : DE X W a f) : DE X W (.UnaryOp .Not a pos) (gNot f) := by
  refine PEmono (pe_notT ha) fun σ H Q h => ?_
  obtain ⟨β, ρ, st, hρ, hs, h⟩ := h
  refine tD_intro hρ hs (Out.sat_bind h) (fun d s1 h1 v β1 H1 e1 S1 r1 => ?_) fun _ _ q => q
  obtain ⟨k, q, p⟩ := oout_sat (Out.sat_bind h1)
  exact ⟨k, tru_d r1 S1 q, p (.bl !k) β1 H1 e1 S1 (.bl _)⟩
/-- a test that is its value's truth: a name, a call, a subscript .. (he by fun _ => rfl) -/
theorem dt_tr (ha : DE X W a f) (he : ∀ whole, isTrue a X.env whole = (do let v ← whole; standAt a.pos; holding [v] (truthy v)) := by exact fun _ => rfl) : DT X W a (gTr f) := by
  refine PTmono (pt_truth ha he) fun σ H Q h => ?_
  obtain ⟨β, ρ, st, hρ, hs, h⟩ := h
  refine tD_intro hρ hs (Out.sat_bind h) (fun d s1 h1 v β1 H1 e1 S1 r1 => ?_) fun _ _ q => q
  obtain ⟨k, q, p⟩ := oout_sat h1
  exact ⟨k, tru_d r1 S1 q, p β1 H1 e1 S1⟩
def gBl (f : G D) : G Bool := fun ρ st => (f ρ st).bind fun d s1 => match d with
  | .bl k => .ok k s1
  | _ => .bad
theorem gBl_sat {d : D} {s1 : Sto} {P : Bool → Sto → Prop} {E : Exn → Sto → Prop} (h : (match d with | .bl k => Out.ok k s1 | _ => .bad : Out Bool).sat P E) : ∃ k, d = .bl k ∧ P k s1 := by
  cases d <;> first | exact h.elim | exact ⟨_, rfl, h⟩
theorem dt_cmp {op : CmpOp} {r : R2} {m : D → D → Sto → Option D} (ho : OpR X (compareOp op) r) (hm : OpD X.K r m) (ha : DE X W a f) (hb : DE X W b g) (hb' : behindInMarks op b = false := by rfl) : DT X W (.Compare a [op] [b] pos) (gBl (gOp m f g)) := by
  refine PTmono (pt_cmpR ho ha hb hb') fun σ H Q h => ?_
  obtain ⟨β, ρ, st, hρ, hs, h⟩ := h
  have h := Out.sat_bind h
  unfold gOp at h
  refine tD_intro hρ hs (Out.sat_bind h) (fun d s1 h1 v β1 H1 e1 S1 r1 => ?_) fun _ _ q => q
  refine tD_intro (hρ.ext e1) S1 (Out.sat_bind h1) (fun d2 s2 h2 v2 β2 H2 e2 S2 r2 => ?_) fun _ _ q => q.ext e1
  obtain ⟨d3, q, p⟩ := oout_sat h2
  obtain ⟨k, e3, p⟩ := gBl_sat p
  subst e3
  refine hm β2 H2 s2 v v2 d d2 _ _ (Rep.ext e2 _ _ r1) r2 S2 q fun w' H' s' r' => ?_
  cases r'
  exact ⟨k, rfl, p β2 H' ((e1.trans e2).trans (Ext.same s')) (S2.same s')⟩
/-- a < b < c, as a value and as a test -/
def gChain (m m' : D → D → Sto → Option D) (f g h : G D) : G Bool := fun ρ st => (f ρ st).bind fun d s1 => (g ρ s1).bind fun e s2 => (oout (m d e s2) s2).bind fun k s2 => match k with
  | .bl true => (h ρ s2).bind fun e' s3 => (oout (m' e e' s3) s3).bind fun k' s3 => match k' with
    | .bl k => .ok k s3
    | _ => .bad
  | .bl false => .ok false s2
  | _ => .bad
def gB (t : G Bool) : G D := fun ρ st => (t ρ st).bind fun k s1 => .ok (.bl k) s1
theorem chain_core {K : PySem.W.Frag} {mg : Str → Option Value} {σ : L2.St} {H : Hp} {r r' : R2} {m m' : D → D → Sto → Option D} {h : G D} {P : Bool → Sto → Prop} {E : Exn → Sto → Prop} (hm : OpD K r m) (hm' : OpD K r' m') {β : Bx} {ρ : Env} {st : Sto} (hρ : RepEnv K β H σ ρ) (hs : StoOk K β H st)
    (hh : (gChain m m' f g h ρ st).sat P E) {R : V → Hp → Prop} (hP : ∀ k s1, P k s1 → ∀ β' H', Ext β H β' H' → StoOk K β' H' s1 → R (.bl k) H') (hE : ∀ x s1, E x s1 → PostX K mg (fun c d H' => W c d σ H') β H x s1) :
    tChain r r' (tD K mg W f) (tD K mg W g) (tD K mg W h) σ H R := by
  unfold gChain at hh
  refine tD_intro hρ hs (Out.sat_bind hh) (fun d s1 h1 v β1 H1 e1 S1 r1 => ?_) hE
  refine tD_intro (hρ.ext e1) S1 (Out.sat_bind h1) (fun d2 s2 h2 v2 β2 H2 e2 S2 r2 => ?_) fun x s q => (hE x s q).ext e1
  obtain ⟨d3, q, p⟩ := oout_sat (Out.sat_bind h2)
  refine hm β2 H2 s2 v v2 d d2 _ _ (Rep.ext e2 _ _ r1) r2 S2 q fun w' H' s' r' => ?_
  have e12 := (e1.trans e2).trans (Ext.same s')
  cases d3 with
  | bl k =>
    cases r'
    refine ⟨k, rfl, ?_⟩
    cases k with
    | true =>
      refine tD_intro (hρ.ext e12) (S2.same s') (Out.sat_bind p) (fun d4 s4 h4 v4 β4 H4 e4 S4 r4 => ?_) fun x s q => (hE x s q).ext e12
      obtain ⟨d5, q5, p5⟩ := oout_sat (Out.sat_bind h4)
      obtain ⟨k5, e5, p5⟩ := gBl_sat p5
      subst e5
      refine hm' β4 H4 s4 v2 v4 d2 d4 _ _ (Rep.ext ((Ext.same s').trans e4) _ _ r2) r4 S4 q5 fun w5 H5 s5 r5 => ?_
      cases r5
      exact hP _ _ p5 β4 H5 ((e12.trans e4).trans (Ext.same s5)) (S4.same s5)
    | false => exact hP _ _ p β2 H' e12 (S2.same s')
  | _ => exact p.elim
theorem de_chain {op op' : CmpOp} {r r' : R2} {m m' : D → D → Sto → Option D} {h : G D} (ho : OpR X (compareOp op) r) (ho' : OpR X (compareOp op') r') (hm : OpD X.K r m) (hm' : OpD X.K r' m') (ha : DE X W a f) (hb : DE X W b g) (hc : DE X W c h)
    (n1 : lastMarks [op, op'] [b, c] = false := by with_unfolding_all rfl) : DE X W (.Compare a [op, op'] [b, c] pos) (gB (gChain m m' f g h)) := by
  refine PEmono (pe_chain ho ho' ha hb hc n1) fun σ H Q h => ?_
  obtain ⟨β, ρ, st, hρ, hs, h⟩ := h
  exact chain_core hm hm' hρ hs (Out.sat_bind h) (fun k s1 p β' H' e S => p (.bl k) β' H' e S (.bl _)) fun _ _ q => q
theorem dt_chain {op op' : CmpOp} {r r' : R2} {m m' : D → D → Sto → Option D} {h : G D} (ho : OpR X (compareOp op) r) (ho' : OpR X (compareOp op') r') (hm : OpD X.K r m) (hm' : OpD X.K r' m') (ha : DE X W a f) (hb : DE X W b g) (hc : DE X W c h)
    (n1 : lastMarks [op, op'] [b, c] = false := by with_unfolding_all rfl) : DT X W (.Compare a [op, op'] [b, c] pos) (gChain m m' f g h) := by
  refine PTmono (pt_chain ho ho' ha hb hc n1) fun σ H Q h => ?_
  obtain ⟨β, ρ, st, hρ, hs, h⟩ := h
  exact chain_core hm hm' hρ hs h (fun k s1 p β' H' e S => ⟨k, rfl, p β' H' e S⟩) fun _ _ q => q
theorem dt_not (ha : DT X W a t) : DT X W (.UnaryOp .Not a pos) (gTNot t) := by
  refine PTmono (pt_not ha) fun σ H Q h => ?_
  obtain ⟨β, ρ, st, hρ, hs, h⟩ := h
  exact tDT_intro hρ hs (Out.sat_bind h) (fun k s1 h1 β1 H1 e1 S1 => h1 β1 H1 e1 S1) fun _ _ q => q
theorem dw_and1 (ha : DT X W a t) : DW X W (.BoolOp .And [a] pos) t := pw_and1 ha
theorem dw_or1 (ha : DT X W a t) : DW X W (.BoolOp .Or [a] pos) t := pw_or1 ha
theorem dw_and (ha : DT X W a t) (hb : DW X W (.BoolOp .And (b :: rest) pos) u) : DW X W (.BoolOp .And (a :: b :: rest) pos) (gTAnd t u) := by
  refine PWmono (pw_and ha hb) fun σ H Q h => ?_
  obtain ⟨β, ρ, st, hρ, hs, h⟩ := h
  refine tDT_intro hρ hs (Out.sat_bind h) (fun k s1 h1 β1 H1 e1 S1 => ?_) fun _ _ q => q
  cases k with
  | true => exact ⟨β1, ρ, s1, hρ.ext e1, S1, Out.sat.mono h1 (fun _ _ z β2 H2 e2 => z β2 H2 (e1.trans e2)) fun _ _ z => z.ext e1⟩
  | false => exact h1 β1 H1 e1 S1
theorem dw_or (ha : DT X W a t) (hb : DW X W (.BoolOp .Or (b :: rest) pos) u) : DW X W (.BoolOp .Or (a :: b :: rest) pos) (gTOr t u) := by
  refine PWmono (pw_or ha hb) fun σ H Q h => ?_
  obtain ⟨β, ρ, st, hρ, hs, h⟩ := h
  refine tDT_intro hρ hs (Out.sat_bind h) (fun k s1 h1 β1 H1 e1 S1 => ?_) fun _ _ q => q
  cases k with
  | false => exact ⟨β1, ρ, s1, hρ.ext e1, S1, Out.sat.mono h1 (fun _ _ z β2 H2 e2 => z β2 H2 (e1.trans e2)) fun _ _ z => z.ext e1⟩
  | true => exact h1 β1 H1 e1 S1
theorem dt_w (h : DW X W a t) : DT X W a t := h.pt
theorem de_if (hc : DT X W c t) (ha : DE X W a f) (hb : DE X W b g) : DE X W (.IfExp c a b pos) (gIf t f g) := by
  refine PEmono (pe_ifExp hc ha hb) fun σ H Q h => ?_
  obtain ⟨β, ρ, st, hρ, hs, h⟩ := h
  refine tDT_intro hρ hs (Out.sat_bind h) (fun k s1 h1 β1 H1 e1 S1 => ?_) fun _ _ q => q
  cases k with
  | true => exact ⟨β1, ρ, s1, hρ.ext e1, S1, Out.sat.mono h1 (fun _ _ z => z.ext e1) fun _ _ z => z.ext e1⟩
  | false => exact ⟨β1, ρ, s1, hρ.ext e1, S1, Out.sat.mono h1 (fun _ _ z => z.ext e1) fun _ _ z => z.ext e1⟩

/-! ### items, slices -/
def atD (l : List D) (i : Int) : Option D := atI l i
def mIx : D → D → Sto → Option D
  | .tup l, .int i, _ => atI l i
  | .lst l, .int i, _ => atI l i
  | .ro l, .int i, _ => atI l i
  | .ref n, .int i, st => match st[n]? with
    | some (.lst l) => atI l i
    | _ => none
  | .str z, .int i, _ => if z.length ≤ LIM then (atI z.cps.toList i).map fun c => .str ⟨#[c]⟩ else none
  | _, _, _ => none
theorem Reps.atI {K : PySem.W.Frag} {β : Bx} {H : Hp} {vs : List V} {ds : List D} {i : Int} {d : D} (r : Reps K β H vs ds) (h : L2.atI ds i = some d) : ∃ v, L2.atI vs i = some v ∧ Rep K β H v d := by
  unfold L2.atI at h ⊢
  rw [r.length]
  cases e : ixN ds.length i with
  | none => rw [e] at h; cases h
  | some j =>
    rw [e] at h
    exact r.get h
theorem od_ix {K : PySem.W.Frag} : OpD K (rIx K) mIx := by
  intro β H st x y dx dy d Q rx ry S e q
  cases dy <;> try (cases dx <;> simp only [mIx, reduceCtorEq] at e)
  all_goals cases ry
  case tup.int l i => cases rx with | tup h1 h2 h3 => obtain ⟨v, hv, r⟩ := h2.atI e; exact .inr (.inl ⟨_, _, _, v, rfl, rfl, h1, hv, q _ _ (Same.refl H) r⟩)
  case lst.int l i => cases rx with | lst h1 hn h2 h3 => obtain ⟨v, hv, r⟩ := h2.atI e; exact .inl ⟨_, _, _, v, rfl, rfl, SqL.of h1, hv, q _ _ (Same.refl H) r⟩
  case ro.int l i => cases rx with | ro h1 h2 h3 => obtain ⟨v, hv, r⟩ := h2.atI e; exact .inl ⟨_, _, _, v, rfl, rfl, h1.sqL, hv, q _ _ (Same.refl H) r⟩
  case ref.int n i =>
    cases rx with
    | ref hm =>
      obtain ⟨o, ho, rel⟩ := S.get hm
      rw [ho] at e
      cases o with
      | lst l =>
        obtain ⟨xs, h, r⟩ := rel
        obtain ⟨v, hv, r⟩ := r.atI e
        exact .inl ⟨_, _, _, v, rfl, rfl, SqL.of h, hv, q _ _ (Same.refl H) r⟩
      | dK l => cases e
      | tab q => cases e
  case str.int z i =>
    cases rx
    split at e
    · rename_i hz
      rw [Option.map_eq_some_iff] at e
      obtain ⟨c, hc, e⟩ := e
      subst e
      exact .inr (.inr ⟨_, _, c, rfl, rfl, leLIM hz, hc, q _ _ (Same.refl H) (.str _)⟩)
    · cases e
end
end DL

set_option Elab.async false
set_option linter.all false
set_option maxRecDepth 100000
set_option maxHeartbeats 2000000
namespace DL
open PySem PySem.Spec L2
open PyProof.Rows hiding St

/-! ### slices -/
def cutD (xs : List D) (lo hi : Option Int) : List D := (xs.drop (HT.sIx xs.length 0 lo)).take (HT.sIx xs.length xs.length hi - HT.sIx xs.length 0 lo)
def mSl : D → Option Int → Option Int → Sto → Option D
  | .tup l, lo, hi, _ => some (.tup (cutD l lo hi))
  | .lst l, lo, hi, _ => some (.lst (cutD l lo hi))
  | .ro l, lo, hi, _ => some (.lst (cutD l lo hi))
  | .ref n, lo, hi, st => match st[n]? with
    | some (.lst l) => if l.length ≤ LIM then some (.lst (cutD l lo hi)) else none
    | _ => none
  | _, _, _, _ => none
theorem cutD_len (xs : List D) (lo hi : Option Int) : (cutD xs lo hi).length ≤ xs.length := by
  unfold cutD
  rw [List.length_take, List.length_drop]
  omega
theorem Reps.cut {K : PySem.W.Frag} {β : Bx} {H : Hp} {vs : List V} {ds : List D} (r : Reps K β H vs ds) (lo hi : Option Int) : Reps K β H (cutV vs lo hi) (cutD ds lo hi) := by
  unfold cutV cutD
  rw [r.length]
  exact (r.drop _).take _
theorem cutD_whole {xs : List D} {lo hi : Option Int} (h : HT.sIx xs.length 0 lo = 0 ∧ HT.sIx xs.length xs.length hi = xs.length) : cutD xs lo hi = xs := by
  unfold cutD
  rw [h.1, h.2]
  simp
abbrev rSlD (K : PySem.W.Frag) : V → Option Int → Option Int → Hp → VK → Prop := fun x lo hi H Q => rSlA K x lo hi H Q ∨ rSlL K x lo hi H Q
theorem sr_sl {X : Cx} : SlR X (rSlD X.K) := sl_tupA.or sl_list
theorem sd_sl {K : PySem.W.Frag} {β : Bx} {H : Hp} {st : Sto} {x : V} {dx d : D} {lo hi : Option Int} {Q : VK} (rx : Rep K β H x dx) (S : StoOk K β H st) (e : mSl dx lo hi st = some d) (q : ∀ v H', Same H H' → Rep K β H' v d → Q v H') : rSlD K x lo hi H Q := by
  cases dx <;> simp only [mSl, reduceCtorEq, Option.some.injEq] at e
  case tup l =>
    subst e
    cases rx with
    | tup h1 h2 h3 =>
      rename_i p xs
      refine .inl ⟨_, xs, rfl, h1, fun hw => ?_, fun hw p hp => ?_⟩
      · rw [h2.length] at hw
        rw [cutD_whole hw] at q
        exact q _ _ (Same.refl H) (.tup h1 h2 h3)
      · exact q _ _ (same_new hp) (.tup (.inl (.inl upd_same)) (Reps.ext (Ext.new hp) _ _ (h2.cut lo hi)) (Nat.le_trans (cutD_len _ _ _) h3))
  case lst l =>
    subst e
    cases rx with
    | lst h1 hn h2 h3 =>
      exact .inr ⟨_, _, rfl, SqL.of h1, fun p hp => q _ _ (same_new hp) (.lst upd_same (S.nmem hp) (Reps.ext (Ext.new hp) _ _ (h2.cut lo hi)) (Nat.le_trans (cutD_len _ _ _) h3))⟩
  case ro l =>
    subst e
    cases rx with
    | ro h1 h2 h3 =>
      exact .inr ⟨_, _, rfl, h1.sqL, fun p hp => q _ _ (same_new hp) (.lst upd_same (S.nmem hp) (Reps.ext (Ext.new hp) _ _ (h2.cut lo hi)) (Nat.le_trans (cutD_len _ _ _) h3))⟩
  case ref n =>
    cases rx with
    | ref hm =>
      obtain ⟨o, ho, rel⟩ := S.get hm
      rw [ho] at e
      cases o with
      | lst l =>
        obtain ⟨xs, h, r⟩ := rel
        have e : (if l.length ≤ LIM then some (D.lst (cutD l lo hi)) else none) = some d := e
        split at e
        · rename_i hz
          have e := Option.some.inj e
          subst e
          exact .inr ⟨_, _, rfl, SqL.of h, fun p hp => q _ _ (same_new hp) (.lst upd_same (S.nmem hp) (Reps.ext (Ext.new hp) _ _ (r.cut lo hi)) (Nat.le_trans (cutD_len _ _ _) (leLIM hz)))⟩
        · cases e
      | dK l => cases e
      | tab q => cases e
def gOp3 (f : G D) (lo hi : G (Option Int)) : G D := fun ρ st => (f ρ st).bind fun d s1 => (lo ρ s1).bind fun l s2 => (hi ρ s2).bind fun u s3 => oout (mSl d l u s3) s3
def gNone : G (Option Int) := fun _ st => .ok none st
def gSome (f : G D) : G (Option Int) := fun ρ st => (f ρ st).bind fun d s1 => match d with
  | .int i => .ok (some i) s1
  | _ => .bad

def PostO (K : PySem.W.Frag) (Q : Option Int → Hp → Prop) (β : Bx) (H : Hp) : Option Int → Sto → Prop := fun o st' => ∀ β' H', Ext β H β' H' → StoOk K β' H' st' → Q o H'
def tDO (K : PySem.W.Frag) (mg : Str → Option Value) (W : WX) (f : G (Option Int)) : TO := fun σ H Q => ∃ β ρ st, RepEnv K β H σ ρ ∧ StoOk K β H st ∧
  (f ρ st).sat (PostO K Q β H) (PostX K mg (fun c d H' => W c d σ H') β H)
section
variable {X : Cx} {W : WX} {pos p2 : Pos} {a b c e : Expr} {lo hi : Option Expr} {es : List Expr} {f g : G D} {l u : G (Option Int)} {fs : G (List D)}
abbrev DO (X : Cx) (W : WX) (e : Option Expr) (f : G (Option Int)) : Prop := PO X e (tDO X.K X.mg W f)
theorem POmono {X : Cx} {e : Option Expr} {t t' : TO} (h : PO X e t) (i : ∀ σ H Q, t' σ H Q → t σ H Q) : PO X e t' := by
  obtain ⟨r⟩ := h
  exact ⟨fun pins s σ H Q I q => r pins s σ H Q I (i _ _ _ q)⟩
theorem do_none : DO X W none gNone := by
  refine POmono po_none fun σ H Q h => ?_
  obtain ⟨β, ρ, st, hρ, hs, h⟩ := h
  exact h β H (Ext.refl β H) hs
theorem do_some (h : DE X W e f) : DO X W (some e) (gSome f) := by
  refine POmono (po_some h) fun σ H Q h => ?_
  obtain ⟨β, ρ, st, hρ, hs, h⟩ := h
  refine tD_intro hρ hs (Out.sat_bind h) (fun d s1 h1 v β1 H1 e1 S1 r1 => ?_) fun _ _ q => q
  cases d with
  | int i => cases r1; exact ⟨i, rfl, h1 β1 H1 e1 S1⟩
  | _ => exact h1.elim
theorem de_sl (he : DE X W e f) (hl : DO X W lo l) (hu : DO X W hi u) : DE X W (.Subscript e (.Slice lo hi none p2) pos) (gOp3 f l u) := by
  refine PEmono (pe_slice sr_sl he hl hu) fun σ H Q h => ?_
  obtain ⟨β, ρ, st, hρ, hs, h⟩ := h
  refine tD_intro hρ hs (Out.sat_bind h) (fun d s1 h1 v β1 H1 e1 S1 r1 => ?_) fun _ _ q => q
  refine ⟨β1, ρ, s1, hρ.ext e1, S1, (Out.sat_bind h1).mono (fun o s2 h2 β2 H2 e2 S2 => ?_) fun _ _ q => q.ext e1⟩
  refine ⟨β2, ρ, s2, (hρ.ext e1).ext e2, S2, (Out.sat_bind h2).mono (fun o2 s3 h3 β3 H3 e3 S3 => ?_) fun _ _ q => (q.ext e1).ext e2⟩
  obtain ⟨d3, q, p⟩ := oout_sat h3
  exact sd_sl (Rep.ext (e2.trans e3) _ _ r1) S3 q fun w' H' s' r' => p w' β3 H' (((e1.trans e2).trans e3).trans (Ext.same s')) (S3.same s') r'
end

/-! ### built-ins -/
section
variable {K : PySem.W.Frag}
def tyD : D → Sto → Option String
  | .non, _ => some "NoneType"
  | .bl _, _ => some "bool"
  | .int _, _ => some "int"
  | .str _, _ => some "str"
  | .tup _, _ => some "tuple"
  | .lst _, _ => some "list"
  | .ro _, _ => some "list"
  | .ref n, st => match st[n]? with
    | some (.lst _) => some "list"
    | some (.dK _) => some "dict"
    | some (.tab _) => none
    | none => none
  | .raw _, _ => none
theorem tyD_x {β : Bx} {H : Hp} {st : Sto} {x : V} {d : D} {t : String} (r : Rep K β H x d) (S : StoOk K β H st) (e : tyD d st = some t) : TyX K H x (.type t) := by
  cases d with
  | non => cases r; cases e; exact .base .non
  | bl c => cases r; cases e; exact .base (.bl _)
  | int i => cases r; cases e; exact .base (.int _)
  | str y => cases r; cases e; exact .base (.str _)
  | tup l =>
    cases e
    cases r with
    | tup h1 h2 h3 =>
      rcases h1 with (h | ⟨o, h⟩) | ⟨o, its, n, hk, hc, _⟩
      · exact .base (.tup h)
      · exact .fTuple h
      · exact .kTuple hk hc
  | lst l => cases e; cases r with | lst h1 hn h2 h3 => exact .base (.lst h1)
  | ro l =>
    cases e
    cases r with
    | ro h1 h2 h3 =>
      rcases h1 with ⟨o, h⟩ | ⟨o, its, n, hk, hc, _⟩
      · exact .base (.frz h)
      · exact .kList hk hc
  | ref n =>
    cases r with
    | ref hm =>
      obtain ⟨o, ho, rel⟩ := S.get hm
      simp only [tyD, ho] at e
      cases o with
      | lst l => cases e; obtain ⟨xs, h, _⟩ := rel; exact .base (.lst h)
      | dK l => cases e; obtain ⟨xs, h, _⟩ := rel; exact .base (.dK h)
      | tab q => cases e
  | raw v => cases e
/-- isinstance of built-in types -/
def isiB (a b : String) : Option Bool :=
  if a = b then (if a ∈ ["int", "bool", "str", "tuple", "list", "dict"] then some true else none) else if a = "bool" ∧ b = "int" then some true else
  if a ∈ ["NoneType", "int", "bool", "str", "tuple", "list", "dict"] ∧ b ∈ ["int", "bool", "str", "tuple", "list", "dict"] then some false else none
theorem isiB_kit {a b : String} {r : Bool} (h : isiB a b = some r) : kitB a b = some r := by
  unfold isiB at h
  split at h
  · rename_i e
    subst e
    split at h
    · rename_i hm
      cases h
      simp only [List.mem_cons, List.not_mem_nil, or_false] at hm
      rcases hm with rfl | rfl | rfl | rfl | rfl | rfl <;> decide +kernel
    · cases h
  · split at h
    · rename_i e
      obtain ⟨rfl, rfl⟩ := e
      cases h
      decide +kernel
    · split at h
      · rename_i n1 n2 e
        cases h
        obtain ⟨ha, hb⟩ := e
        simp only [List.mem_cons, List.not_mem_nil, or_false] at ha hb
        rcases ha with rfl | rfl | rfl | rfl | rfl | rfl | rfl <;> rcases hb with rfl | rfl | rfl | rfl | rfl | rfl <;> first | exact absurd rfl n1 | exact absurd ⟨rfl, rfl⟩ n2 | decide +kernel
      · cases h
def mIsi : List D → Sto → Option D
  | [d, .raw (.ty b)], st => match tyD d st with
    | some a => (isiB a b).map D.bl
    | none => none
  | _, _ => none
theorem cd_isi : CallD K (rIsi K) mIsi := by
  intro β H st xs ds d Q r S e q
  match ds, r, e with
  | [x, .raw (.ty b)], r, e =>
    obtain ⟨v, w, rfl, r1, r2⟩ := r.two
    simp only [mIsi] at e
    split at e
    · rename_i a ha
      rw [Option.map_eq_some_iff] at e
      obtain ⟨k, hk, e⟩ := e
      subst e
      cases r2
      exact ⟨v, .ty b, _, _, k, rfl, .ty b, tyD_x r1 S ha, kit_ty (isiB_kit hk), q _ _ (Same.refl H) (.bl _)⟩
    · cases e
def mLen : List D → Sto → Option D
  | [.str x], _ => if x.length ≤ LIM then some (.int x.length) else none
  | [.tup l], _ => some (.int l.length)
  | [.lst l], _ => some (.int l.length)
  | [.ro l], _ => some (.int l.length)
  | [.ref n], st => match st[n]? with
    | some (.lst l) => some (.int l.length)
    | _ => none
  | _, _ => none
abbrev rLenD (K : PySem.W.Frag) : List V → Hp → VK → Prop := fun xs H Q => ∃ x n, xs = [x] ∧ LenV K x H n ∧ Q (.int n) H
theorem cd_len : CallD K (rLenD K) mLen := by
  intro β H st xs ds d Q r S e q
  match ds, r, e with
  | [.str x], r, e =>
    obtain ⟨v, rfl, r1⟩ := r.one
    cases r1
    simp only [mLen] at e
    split at e
    · rename_i hz
      cases e
      exact ⟨_, x.length, rfl, ⟨leLIM hz, rfl⟩, q _ _ (Same.refl H) (.int _)⟩
    · cases e
  | [.tup l], r, e =>
    obtain ⟨v, rfl, r1⟩ := r.one
    cases e
    cases r1 with | tup h1 h2 h3 => exact ⟨_, l.length, rfl, .inr ⟨_, h1, h2.length.symm⟩, q _ _ (Same.refl H) (.int _)⟩
  | [.lst l], r, e =>
    obtain ⟨v, rfl, r1⟩ := r.one
    cases e
    cases r1 with | lst h1 hn h2 h3 => exact ⟨_, l.length, rfl, .inl ⟨_, SqL.of h1, h2.length.symm⟩, q _ _ (Same.refl H) (.int _)⟩
  | [.ro l], r, e =>
    obtain ⟨v, rfl, r1⟩ := r.one
    cases e
    cases r1 with | ro h1 h2 h3 => exact ⟨_, l.length, rfl, .inl ⟨_, h1.sqL, h2.length.symm⟩, q _ _ (Same.refl H) (.int _)⟩
  | [.ref n], r, e =>
    obtain ⟨v, rfl, r1⟩ := r.one
    cases r1 with
    | ref hm =>
      obtain ⟨o, ho, rel⟩ := S.get hm
      simp only [mLen, ho] at e
      cases o with
      | lst l =>
        cases e
        obtain ⟨xs, h, r⟩ := rel
        exact ⟨_, l.length, rfl, .inl ⟨_, SqL.of h, r.length.symm⟩, q _ _ (Same.refl H) (.int _)⟩
      | dK l => cases e
      | tab q => cases e
def mTuple : List D → Sto → Option D
  | [.tup l], _ => some (.tup l)
  | [.lst l], _ => some (.tup l)
  | [.ro l], _ => some (.tup l)
  | [.ref n], st => match st[n]? with
    | some (.lst l) => if l.length ≤ LIM then some (.tup l) else none
    | _ => none
  | _, _ => none
abbrev rTupleD (K : PySem.W.Frag) : List V → Hp → VK → Prop := fun xs H Q => ∃ p ys, xs = [.ref p] ∧ ((SqL K H p ys ∧ ∀ l, H l = none → Q (.ref l) (upd H l (.tup ys))) ∨ (SqT K H p ys ∧ Q (.ref p) H))
theorem cd_tuple : CallD K (rTupleD K) mTuple := by
  intro β H st xs ds d Q r S e q
  match ds, r, e with
  | [.tup l], r, e =>
    obtain ⟨v, rfl, r1⟩ := r.one
    cases e
    cases r1 with | tup h1 h2 h3 => exact ⟨_, _, rfl, .inr ⟨h1, q _ _ (Same.refl H) (.tup h1 h2 h3)⟩⟩
  | [.lst l], r, e =>
    obtain ⟨v, rfl, r1⟩ := r.one
    cases e
    cases r1 with | lst h1 hn h2 h3 => exact ⟨_, _, rfl, .inl ⟨SqL.of h1, fun p hp => q _ _ (same_new hp) (.tup (.inl (.inl upd_same)) (Reps.ext (Ext.new hp) _ _ h2) h3)⟩⟩
  | [.ro l], r, e =>
    obtain ⟨v, rfl, r1⟩ := r.one
    cases e
    cases r1 with | ro h1 h2 h3 => exact ⟨_, _, rfl, .inl ⟨h1.sqL, fun p hp => q _ _ (same_new hp) (.tup (.inl (.inl upd_same)) (Reps.ext (Ext.new hp) _ _ h2) h3)⟩⟩
  | [.ref n], r, e =>
    obtain ⟨v, rfl, r1⟩ := r.one
    cases r1 with
    | ref hm =>
      obtain ⟨o, ho, rel⟩ := S.get hm
      simp only [mTuple, ho] at e
      cases o with
      | lst l =>
        simp only at e
        split at e
        · rename_i hz
          cases e
          obtain ⟨xs, h, r⟩ := rel
          exact ⟨_, _, rfl, .inl ⟨SqL.of h, fun p hp => q _ _ (same_new hp) (.tup (.inl (.inl upd_same)) (Reps.ext (Ext.new hp) _ _ r) (leLIM hz))⟩⟩
        · cases e
      | dK l => cases e
      | tab q => cases e
def mList : List D → Sto → Option D
  | [.tup l], _ => some (.lst l)
  | [.lst l], _ => some (.lst l)
  | [.ro l], _ => some (.lst l)
  | [.ref n], st => match st[n]? with
    | some (.lst l) => if l.length ≤ LIM then some (.lst l) else none
    | _ => none
  | _, _ => none
abbrev rListD (K : PySem.W.Frag) : List V → Hp → VK → Prop := fun xs H Q => ∃ p ys, xs = [.ref p] ∧ (SqL K H p ys ∨ SqT K H p ys) ∧ ∀ l, H l = none → Q (.ref l) (upd H l (.lst ys))
theorem cd_list : CallD K (rListD K) mList := by
  intro β H st xs ds d Q r S e q
  have fin : ∀ {p : Addr} {ys : List V} {l : List D}, Reps K β H ys l → l.length ≤ sizeLine → (SqL K H p ys ∨ SqT K H p ys) → d = .lst l → xs = [.ref p] → rListD K xs H Q := fun {p ys l} h2 h3 hh ed ex => by
    subst ed
    exact ⟨p, ys, ex, hh, fun p hp => q _ _ (same_new hp) (.lst upd_same (S.nmem hp) (Reps.ext (Ext.new hp) _ _ h2) h3)⟩
  match ds, r, e with
  | [.tup l], r, e =>
    obtain ⟨v, rfl, r1⟩ := r.one
    cases e
    cases r1 with | tup h1 h2 h3 => exact fin h2 h3 (.inr h1) rfl rfl
  | [.lst l], r, e =>
    obtain ⟨v, rfl, r1⟩ := r.one
    cases e
    cases r1 with | lst h1 hn h2 h3 => exact fin h2 h3 (.inl (SqL.of h1)) rfl rfl
  | [.ro l], r, e =>
    obtain ⟨v, rfl, r1⟩ := r.one
    cases e
    cases r1 with | ro h1 h2 h3 => exact fin h2 h3 (.inl h1.sqL) rfl rfl
  | [.ref n], r, e =>
    obtain ⟨v, rfl, r1⟩ := r.one
    cases r1 with
    | ref hm =>
      obtain ⟨o, ho, rel⟩ := S.get hm
      simp only [mList, ho] at e
      cases o with
      | lst l =>
        simp only at e
        split at e
        · rename_i hz
          cases e
          obtain ⟨xs, h, r⟩ := rel
          exact fin r (leLIM hz) (.inl (SqL.of h)) rfl rfl
        · cases e
      | dK l => cases e
      | tab q => cases e
def bls : List D → Option (List Bool)
  | [] => some []
  | .bl b :: r => (bls r).map (b :: ·)
  | _ => none
theorem bls_reps {β : Bx} {H : Hp} : ∀ {l : List D} {xs : List V} {bs : List Bool}, Reps K β H xs l → bls l = some bs → xs = bs.map V.bl
  | [], _, _, r, e => by cases r; cases e; rfl
  | d :: l, _, _, r, e => by
    cases r with
    | cons r1 r2 =>
      cases d <;> simp only [bls, reduceCtorEq] at e
      rw [Option.map_eq_some_iff] at e
      obtain ⟨bs, hb, rfl⟩ := e
      cases r1
      rw [bls_reps r2 hb]
      rfl
def mAll : List D → Sto → Option D
  | [.lst l], _ => (bls l).map fun bs => .bl (bs.all id)
  | _, _ => none
def mAny : List D → Sto → Option D
  | [.lst l], _ => (bls l).map fun bs => .bl (bs.any id)
  | _, _ => none
theorem cd_all : CallD K (rAll K) mAll := by
  intro β H st xs ds d Q r S e q
  match ds, r, e with
  | [.lst l], r, e =>
    obtain ⟨v, rfl, r1⟩ := r.one
    simp only [mAll, Option.map_eq_some_iff] at e
    obtain ⟨bs, hb, rfl⟩ := e
    cases r1 with | lst h1 hn h2 h3 => exact ⟨_, bs, rfl, by rw [← bls_reps h2 hb]; exact SqL.of h1, q _ _ (Same.refl H) (.bl _)⟩
theorem cd_any : CallD K (rAny K) mAny := by
  intro β H st xs ds d Q r S e q
  match ds, r, e with
  | [.lst l], r, e =>
    obtain ⟨v, rfl, r1⟩ := r.one
    simp only [mAny, Option.map_eq_some_iff] at e
    obtain ⟨bs, hb, rfl⟩ := e
    cases r1 with | lst h1 hn h2 h3 => exact ⟨_, bs, rfl, by rw [← bls_reps h2 hb]; exact SqL.of h1, q _ _ (Same.refl H) (.bl _)⟩
def mInt : List D → Sto → Option D
  | [.int i], _ => some (.int i)
  | [.bl b], _ => some (.int (if b then 1 else 0))
  | _, _ => none
abbrev rIntD : List V → Hp → VK → Prop := fun xs H Q => (∃ i, xs = [.int i] ∧ Q (.int i) H) ∨ ∃ k, xs = [.bl k] ∧ Q (.int (if k then 1 else 0)) H
theorem cd_int : CallD K rIntD mInt := by
  intro β H st xs ds d Q r S e q
  match ds, r, e with
  | [.int i], r, e => obtain ⟨v, rfl, r1⟩ := r.one; cases r1; cases e; exact .inl ⟨_, rfl, q _ _ (Same.refl H) (.int _)⟩
  | [.bl i], r, e => obtain ⟨v, rfl, r1⟩ := r.one; cases r1; cases e; exact .inr ⟨_, rfl, q _ _ (Same.refl H) (.int _)⟩
def mMin2 : List D → Sto → Option D
  | [.int i, .int j], _ => some (.int (if j < i then j else i))
  | _, _ => none
def mMax2 : List D → Sto → Option D
  | [.int i, .int j], _ => some (.int (if j > i then j else i))
  | _, _ => none
theorem cd_min2 : CallD K (fun xs H Q => ∃ i j, xs = [.int i, .int j] ∧ Q (.int (if j < i then j else i)) H) mMin2 := by
  intro β H st xs ds d Q r S e q
  match ds, r, e with
  | [.int i, .int j], r, e => obtain ⟨v, w, rfl, r1, r2⟩ := r.two; cases r1; cases r2; cases e; exact ⟨_, _, rfl, q _ _ (Same.refl H) (.int _)⟩
theorem cd_max2 : CallD K (fun xs H Q => ∃ i j, xs = [.int i, .int j] ∧ Q (.int (if j > i then j else i)) H) mMax2 := by
  intro β H st xs ds d Q r S e q
  match ds, r, e with
  | [.int i, .int j], r, e => obtain ⟨v, w, rfl, r1, r2⟩ := r.two; cases r1; cases r2; cases e; exact ⟨_, _, rfl, q _ _ (Same.refl H) (.int _)⟩
end
end DL

set_option Elab.async false
set_option linter.all false
set_option maxRecDepth 100000
set_option maxHeartbeats 2000000
namespace DL
open PySem PySem.Spec L2
open PyProof.Rows hiding St

/-! ### targets -/
inductive Pat where
  | nm (i : Nat) | tp (ps : List Pat)
mutual
def Pat.tg (K : PySem.W.Frag) : Pat → TG
  | .nm i => gName i
  | .tp ps => gTup K ps.length (Pats.tg K ps)
def Pats.tg (K : PySem.W.Frag) : List Pat → TGs
  | [] => gNil
  | p :: ps => gCons (Pat.tg K p) (Pats.tg K ps)
end
mutual
def Pat.set : Pat → D → Env → Option Env
  | .nm i, d, ρ => some (ρ.set i (some d))
  | .tp ps, .tup ds, ρ => if ds.length = ps.length then Pats.set ps ds ρ else none
  | .tp _, _, _ => none
def Pats.set : List Pat → List D → Env → Option Env
  | [], [], ρ => some ρ
  | p :: ps, d :: ds, ρ => match Pat.set p d ρ with
    | some ρ' => Pats.set ps ds ρ'
    | none => none
  | [], _ :: _, _ => none
  | _ :: _, [], _ => none
end
mutual
def Pat.slots : Pat → List Nat
  | .nm i => [i]
  | .tp ps => Pats.slots ps
def Pats.slots : List Pat → List Nat
  | [] => []
  | p :: ps => Pat.slots p ++ Pats.slots ps
end
section
variable {K : PySem.W.Frag} {β : Bx} {H : Hp}
mutual
theorem pat_ok : ∀ (p : Pat) (v : V) (d : D) (σ : L2.St) (ρ ρ' : Env) (Q : L2.St → Hp → Prop), Rep K β H v d → Pat.set p d ρ = some ρ' → RepEnv K β H σ ρ →
    (∀ σ', RepEnv K β H σ' ρ' → (∀ j, j ∉ p.slots → σ'[j]? = σ[j]?) → σ'.length = σ.length → Q σ' H) → p.tg K v σ H Q
  | .nm i, v, d, σ, ρ, ρ', Q, r, e, hρ, q => by
    simp only [Pat.set, Option.some.injEq] at e
    subst e
    simp only [Pat.tg]
    refine q _ (hρ.set i r) (fun j hj => ?_) (by simp)
    simp only [Pat.slots, List.mem_singleton] at hj
    rw [List.getElem?_set_ne (Ne.symm hj)]
  | .tp ps, v, .tup ds, σ, ρ, ρ', Q, r, e, hρ, q => by
    simp only [Pat.set] at e
    split at e
    · rename_i hl
      cases r with
      | tup h1 h2 h3 =>
        simp only [Pat.tg]
        refine ⟨_, _, rfl, h1, by rw [h2.length]; exact hl, ?_⟩
        exact pats_ok ps _ ds σ ρ ρ' Q h2 e hρ (by simpa only [Pat.slots] using q)
    · cases e
  | .tp ps, v, .non, σ, ρ, ρ', Q, r, e, hρ, q => by simp [Pat.set] at e
  | .tp ps, v, .bl _, σ, ρ, ρ', Q, r, e, hρ, q => by simp [Pat.set] at e
  | .tp ps, v, .int _, σ, ρ, ρ', Q, r, e, hρ, q => by simp [Pat.set] at e
  | .tp ps, v, .str _, σ, ρ, ρ', Q, r, e, hρ, q => by simp [Pat.set] at e
  | .tp ps, v, .lst _, σ, ρ, ρ', Q, r, e, hρ, q => by simp [Pat.set] at e
  | .tp ps, v, .ro _, σ, ρ, ρ', Q, r, e, hρ, q => by simp [Pat.set] at e
  | .tp ps, v, .ref _, σ, ρ, ρ', Q, r, e, hρ, q => by simp [Pat.set] at e
  | .tp ps, v, .raw _, σ, ρ, ρ', Q, r, e, hρ, q => by simp [Pat.set] at e
theorem pats_ok : ∀ (ps : List Pat) (vs : List V) (ds : List D) (σ : L2.St) (ρ ρ' : Env) (Q : L2.St → Hp → Prop), Reps K β H vs ds → Pats.set ps ds ρ = some ρ' → RepEnv K β H σ ρ →
    (∀ σ', RepEnv K β H σ' ρ' → (∀ j, j ∉ Pats.slots ps → σ'[j]? = σ[j]?) → σ'.length = σ.length → Q σ' H) → Pats.tg K ps vs σ H Q
  | [], vs, [], σ, ρ, ρ', Q, r, e, hρ, q => by
    simp only [Pats.set, Option.some.injEq] at e
    subst e
    cases r
    simp only [Pats.tg]
    exact ⟨rfl, q σ hρ (fun _ _ => rfl) rfl⟩
  | p :: ps, vs, d :: ds, σ, ρ, ρ', Q, r, e, hρ, q => by
    simp only [Pats.set] at e
    split at e
    · rename_i ρ1 h1
      cases r with
      | cons r1 r2 =>
        rename_i v vs
        simp only [Pats.tg]
        refine ⟨v, vs, rfl, ?_⟩
        refine pat_ok p v d σ ρ ρ1 _ r1 h1 hρ fun σ1 hρ1 k1 l1 => ?_
        refine pats_ok ps vs ds σ1 ρ1 ρ' Q r2 e hρ1 fun σ2 hρ2 k2 l2 => ?_
        refine q σ2 hρ2 (fun j hj => ?_) (l2.trans l1)
        simp only [Pats.slots, List.mem_append, not_or] at hj
        rw [k2 j hj.2, k1 j hj.1]
    · cases e
  | [], vs, _ :: _, σ, ρ, ρ', Q, r, e, hρ, q => by simp [Pats.set] at e
  | _ :: _, vs, [], σ, ρ, ρ', Q, r, e, hρ, q => by simp [Pats.set] at e
end
end
theorem wipe_get {σ : L2.St} {j : Nat} : ∀ {vs : List Nat}, (wipe σ vs)[j]? = if j ∈ vs then (if j < σ.length then some none else none) else σ[j]?
  | [] => by simp [wipe]
  | v :: vs => by
    unfold wipe
    by_cases h : v = j
    · subst h
      by_cases hl : v < σ.length
      · rw [List.getElem?_set_self (by rw [wipe_length]; exact hl)]
        simp [hl]
      · rw [List.getElem?_eq_none (by rw [List.length_set, wipe_length]; omega)]
        simp [hl]
    · rw [List.getElem?_set_ne h, wipe_get]
      have : j ∈ v :: vs ↔ j ∈ vs := by
        simp only [List.mem_cons]
        exact ⟨fun z => z.elim (fun e => absurd e.symm h) id, .inr⟩
      simp only [this]
theorem wipe_same {σ σ' : L2.St} {vs : List Nat} (hl : σ'.length = σ.length) (h : ∀ j, j ∉ vs → σ'[j]? = σ[j]?) : wipe σ' vs = wipe σ vs := by
  refine List.ext_getElem? fun j => ?_
  rw [wipe_get, wipe_get, hl]
  by_cases hj : j ∈ vs
  · rw [if_pos hj, if_pos hj]
  · rw [if_neg hj, if_neg hj, h j hj]
def wipeE (ρ : Env) : List Nat → Env
  | [] => ρ
  | v :: vs => (wipeE ρ vs).set v none
theorem RepEnv.setN {K : PySem.W.Frag} {β : Bx} {H : Hp} {σ : L2.St} {ρ : Env} (h : RepEnv K β H σ ρ) (i : Nat) (o : Option V) : RepEnv K β H (σ.set i o) (ρ.set i none) := by
  refine ⟨by rw [List.length_set, List.length_set]; exact h.1, fun j d q => ?_⟩
  by_cases hj : i = j
  · subst hj
    have hl : i < ρ.length := by
      have := (List.getElem?_eq_some_iff.mp q).1
      simpa using this
    rw [List.getElem?_set_self hl] at q
    cases Option.some.inj q
  · rw [List.getElem?_set_ne hj] at q
    obtain ⟨w, h1, h2⟩ := h.2 j d q
    exact ⟨w, by rw [List.getElem?_set_ne hj]; exact h1, h2⟩
theorem RepEnv.wipe {K : PySem.W.Frag} {β : Bx} {H : Hp} {σ : L2.St} {ρ : Env} (h : RepEnv K β H σ ρ) : ∀ vs : List Nat, RepEnv K β H (L2.wipe σ vs) (wipeE ρ vs)
  | [] => h
  | v :: vs => (RepEnv.wipe h vs).setN v none
section
variable {X : Cx} {pos : Pos}
abbrev DG (X : Cx) (tg : Expr) (p : Pat) : Prop := PG X tg (p.tg X.K)
abbrev DGs (X : Cx) (tg : List Expr) (p : List Pat) : Prop := PGs X tg (Pats.tg X.K p)
theorem dg_nm {i : Nat} {x : Str} (hN : X.N.Nodup) (hi : X.N[i]? = some x) (hx : Loc X.env.scope x) (hf : X.fn x = true ∨ X.env.scope.names.lookup x = some .local := by first | exact .inl rfl | exact .inr rfl | assumption) : DG X (.Name x pos) (.nm i) := by
  have := pg_name (pos := pos) hN hi hx hf
  exact PGmono this fun v σ H Q h => by simpa only [Pat.tg] using h
theorem dgs_nil : DGs X [] [] := by
  have h := pgs_nil (X := X)
  unfold DGs
  simp only [Pats.tg]
  exact h
theorem dgs_cons {e : Expr} {es : List Expr} {p : Pat} {ps : List Pat} (h1 : DG X e p) (h2 : DGs X es ps) (hs : (assignEach (e :: es) X.env).map (·.2) = assign e X.env :: (assignEach es X.env).map (·.2) := by rfl) : DGs X (e :: es) (p :: ps) := by
  unfold DGs
  simp only [Pats.tg]
  exact pgs_cons h1 h2 hs
theorem dg_tp {es : List Expr} {k : Nat} {ps : List Pat} (hc : X.calm = true) (h : DGs X es ps)
    (hn : (assignEach es X.env).length = ps.length := by rfl) (hst : (assignEach es X.env).findIdx? (·.1) = none := by rfl) : DG X (.Tuple es k pos) (.tp ps) := by
  unfold DG
  simp only [Pat.tg]
  exact pg_tup hc h hn hst
end

/-! ### what is walked -/
structure ItD (K : PySem.W.Frag) (β : Bx) (H : Hp) (J : It) (items : List D) : Prop where
  go : ∀ β' H' i, Mv β H β' H' → i < items.length → J.go i H'
  yld : ∀ β' H' i x H'' d, Mv β H β' H' → items[i]? = some d → J.yld i H' x H'' → Same H' H'' ∧ Rep K β' H'' x d
  stop : ∀ β' H' i, Mv β H β' H' → items.length ≤ i → J.stop i H'
theorem ItD.mv {K : PySem.W.Frag} {β β' : Bx} {H H' : Hp} {J : It} {items : List D} (t : ItD K β H J items) (e : Mv β H β' H') : ItD K β' H' J items :=
  ⟨fun b h i x => t.go b h i (e.trans x), fun b h i x h'' d z => t.yld b h i x h'' d (e.trans z), fun b h i x => t.stop b h i (e.trans x)⟩
def tDI (K : PySem.W.Frag) (mg : Str → Option Value) (W : WX) (f : G (List D)) : TI := fun σ H R => ∃ β ρ st, RepEnv K β H σ ρ ∧ StoOk K β H st ∧
  (f ρ st).sat (fun items st' => ∀ J β' H', Ext β H β' H' → StoOk K β' H' st' → ItD K β' H' J items → items.length ≤ sizeLine → R J H') (PostX K mg (fun c d H' => W c d σ H') β H)
abbrev DI (X : Cx) (W : WX) (tg e : Expr) (f : G (List D)) : Prop := PI X tg e (tDI X.K X.mg W f)
section
variable {K : PySem.W.Frag} {β : Bx} {H : Hp}
theorem itd_l {a : Addr} {xs : List V} {l : List D} (h : ∀ β' H', Mv β H β' H' → SqL K H' a xs) (r : Reps K β H xs l) : ItD K β H (Itl K a) l where
  go := fun β' H' i e hi => ⟨xs, xs[i]'(by rw [r.length]; exact hi), h β' H' e, List.getElem?_eq_getElem _⟩
  yld := fun β' H' i x H'' d e hd hy => by
    obtain ⟨rfl, hy⟩ := hy
    obtain ⟨v, hv, rv⟩ := r.get hd
    have e1 := hy xs (h β' _ e)
    rw [hv] at e1
    have e1 := Option.some.inj e1
    subst e1
    exact ⟨Same.refl _, Rep.move e _ _ rv⟩
  stop := fun β' H' i e hi => ⟨xs, h β' H' e, by rw [r.length]; exact hi⟩
theorem itd_t {a : Addr} {xs : List V} {l : List D} (h : SqT K H a xs) (r : Reps K β H xs l) : ItD K β H (Itt K a) l where
  go := fun β' H' i e hi => ⟨xs, xs[i]'(by rw [r.length]; exact hi), e.sqT h, List.getElem?_eq_getElem _⟩
  yld := fun β' H' i x H'' d e hd hy => by
    obtain ⟨rfl, hy⟩ := hy
    obtain ⟨v, hv, rv⟩ := r.get hd
    have e1 := hy xs (e.sqT h)
    rw [hv] at e1
    have e1 := Option.some.inj e1
    subst e1
    exact ⟨Same.refl _, Rep.move e _ _ rv⟩
  stop := fun β' H' i e hi => ⟨xs, e.sqT h, by rw [r.length]; exact hi⟩
theorem itd_r (lo : Int) (n : Nat) : ItD K β H (Itr lo n) ((List.range n).map fun i : Nat => D.int (lo + (i : Int))) where
  go := fun β' H' i e hi => by show i < n; simpa using hi
  yld := fun β' H' i x H'' d e hd hy => by
    obtain ⟨rfl, rfl⟩ := hy
    rw [List.getElem?_map] at hd
    cases q : (List.range n)[i]? with
    | none => rw [q] at hd; cases hd
    | some j =>
      rw [q] at hd
      have hd := Option.some.inj hd
      have hj : i = j := by
        have := (List.getElem?_eq_some_iff.mp q).2
        simpa using this
      subst hd hj
      exact ⟨Same.refl _, .int _⟩
  stop := fun β' H' i e hi => by show n ≤ i; simpa using hi
def zipD : List D → List D → List D
  | a :: as, b :: bs => .tup [a, b] :: zipD as bs
  | _, _ => []
theorem zipD_len : ∀ a b : List D, (zipD a b).length = min a.length b.length
  | [], b => by simp [zipD]
  | _ :: _, [] => by simp [zipD]
  | a :: as, b :: bs => by simp only [zipD, List.length_cons, zipD_len as bs]; omega
theorem zipD_get : ∀ {a b : List D} {i : Nat} {d : D}, (zipD a b)[i]? = some d → ∃ x y, d = .tup [x, y] ∧ a[i]? = some x ∧ b[i]? = some y
  | [], b, i, d, h => by simp [zipD] at h
  | _ :: _, [], i, d, h => by simp [zipD] at h
  | a :: as, b :: bs, 0, d, h => ⟨a, b, (Option.some.inj (by simpa [zipD] using h)).symm, rfl, rfl⟩
  | a :: as, b :: bs, i + 1, d, h => by
    obtain ⟨x, y, e, h1, h2⟩ := zipD_get (a := as) (b := bs) (i := i) (d := d) (by simpa [zipD] using h)
    exact ⟨x, y, e, by simpa using h1, by simpa using h2⟩
theorem itd_zt {a b : Addr} {xs ys : List V} {l m : List D} (h : SqT K H a xs) (h' : SqT K H b ys) (r : Reps K β H xs l) (r' : Reps K β H ys m) : ItD K β H (RZ.ItzT K a b) (zipD l m) where
  go := fun β' H' i e hi => by
    rw [zipD_len] at hi
    exact ⟨xs, ys, xs[i]'(by rw [r.length]; omega), ys[i]'(by rw [r'.length]; omega), e.sqT h, e.sqT h', List.getElem?_eq_getElem _, List.getElem?_eq_getElem _⟩
  yld := fun β' H' i x H'' d e hd hy => by
    obtain ⟨T, x1, y1, rfl, nT, rfl, f1, f2⟩ := hy
    obtain ⟨dx, dy, rfl, g1, g2⟩ := zipD_get hd
    obtain ⟨v, hv, rv⟩ := r.get g1
    obtain ⟨v', hv', rv'⟩ := r'.get g2
    have e1 := f1 xs (e.sqT h)
    have e2 := f2 ys (e.sqT h')
    rw [hv] at e1
    rw [hv'] at e2
    have e1 := Option.some.inj e1
    have e2 := Option.some.inj e2
    subst e1 e2
    have e3 := e.trans (Ext.new (β := β') (o := .tup [v, v']) nT).mv
    exact ⟨same_new nT, .tup (.inl (.inl upd_same)) (.cons (Rep.move e3 _ _ rv) (.cons (Rep.move e3 _ _ rv') .nil)) (le1000 (by simp))⟩
  stop := fun β' H' i e hi => by
    rw [zipD_len] at hi
    refine ⟨xs, ys, e.sqT h, e.sqT h', ?_⟩
    rw [r.length, r'.length]
    omega
end
def mSeq : D → Sto → Option (List D)
  | .tup l, _ => some l
  | .lst l, _ => some l
  | .ro l, _ => some l
  | _, _ => none
def gSeq (f : G D) : G (List D) := fun ρ st => (f ρ st).bind fun d s1 => oout (mSeq d s1) s1
def intsD (lo : Int) (n : Nat) : List D := (List.range n).map fun i : Nat => D.int (lo + (i : Int))
def mRange1 : List D → Option (List D)
  | [.int n] => if n ≤ 1000000 ∧ -1000000 ≤ n then some (intsD 0 n.toNat) else none
  | _ => none
def mRange2 : List D → Option (List D)
  | [.int a, .int b] => if (-1000000 ≤ a ∧ a ≤ 1000000) ∧ (-1000000 ≤ b ∧ b ≤ 1000000) then some (intsD a (b - a).toNat) else none
  | _ => none
def gRange1 (f : G (List D)) : G (List D) := fun ρ st => (f ρ st).bind fun d s1 => oout (mRange1 d) s1
def gRange2 (f : G (List D)) : G (List D) := fun ρ st => (f ρ st).bind fun d s1 => oout (mRange2 d) s1
def mZip : List D → Option (List D)
  | [.tup a, .tup b] => some (zipD a b)
  | _ => none
def gZip (f : G (List D)) : G (List D) := fun ρ st => (f ρ st).bind fun d s1 => oout (mZip d) s1
section
variable {X : Cx} {W : WX} {tg : Expr}
def iSeq (K : PySem.W.Frag) (tl : TE) : TI := fun σ H R => tl σ H fun x H1 => ∃ a, x = .ref a ∧ ((∃ xs, SqL K H1 a xs ∧ R (Itl K a) H1) ∨ (∃ xs, SqT K H1 a xs ∧ R (Itt K a) H1))
theorem pi_seq {l : Expr} {tl : TE} (hl : PE X l tl) : PI X tg l (iSeq X.K tl) := by
  refine ⟨fun pins s σ H R I h => ?_⟩
  refine thn (hl.run pins s σ H _ I h) fun v s1 ⟨x, H1, I1, r1, q1⟩ => ?_
  obtain ⟨a, e, q1⟩ := q1
  subst e
  cases r1
  have fr : ∀ b, b ∈ [s1.heap.objs.size] → FpOk X pins H1 b := fun b hb => by
    have e : b = s1.heap.objs.size := by simpa using hb
    subst e
    exact I1.fpOk (Nat.le_refl _) (I1.hok.fresh (Nat.le_refl _))
  rcases q1 with ⟨xs, hq, q⟩ | ⟨xs, hq, q⟩
  · obtain ⟨its, rv, p, hz⟩ := I1.list hq
    refine wpAny_pyIter_list p.isList ?_
    exact ⟨s1.heap.objs.size, [s1.heap.objs.size], _, _, H1, rfl, I1.kept (t' := s1.toks) fun b o e => Heap.get?_push_of_some _ e, turn_list a _, ⟨_, Heap.get?_push_size _ rfl, rfl, rfl⟩, fr, q⟩
  · obtain ⟨its, rv, p, hz⟩ := I1.tuple hq
    refine wpAny_pyIter_tuple (show s1.heap.IsTuple a its.toArray from p) ?_
    exact ⟨s1.heap.objs.size, [s1.heap.objs.size], _, _, H1, rfl, I1.kept (t' := s1.toks) fun b o e => Heap.get?_push_of_some _ e, turn_tuple a _, ⟨_, Heap.get?_push_size _ rfl, rfl, rfl⟩, fr, q⟩
theorem di_seq {l : Expr} {f : G D} (h : DE X W l f) : DI X W tg l (gSeq f) := by
  refine PImono (pi_seq h) fun σ H R h => ?_
  obtain ⟨β, ρ, st, hρ, hs, h⟩ := h
  refine tD_intro hρ hs (Out.sat_bind h) (fun d s1 h1 v β1 H1 e1 S1 r1 => ?_) fun _ _ q => q
  obtain ⟨l, q, p⟩ := oout_sat h1
  cases d <;> simp only [mSeq, reduceCtorEq, Option.some.injEq] at q
  case tup m => subst q; cases r1 with | tup h1 h2 h3 => exact ⟨_, rfl, .inr ⟨_, h1, p _ β1 H1 e1 S1 (itd_t h1 h2) h3⟩⟩
  case lst m => subst q; cases r1 with | lst h1 hn h2 h3 => exact ⟨_, rfl, .inl ⟨_, SqL.of h1, p _ β1 H1 e1 S1 (itd_l (fun β' H' e => SqL.of (e.lst _ _ h1 hn).1) h2) h3⟩⟩
  case ro m => subst q; cases r1 with | ro h1 h2 h3 => exact ⟨_, rfl, .inl ⟨_, h1.sqL, p _ β1 H1 e1 S1 (itd_l (fun β' H' e => (e.sqR h1).sqL) h2) h3⟩⟩
theorem di_range1 {a : Expr} {fs : G (List D)} {p pos : Pos} (hg : Gl X "range") (hm : X.mg "range" = none) (ha : DA X W [a] fs) (hs : starEach [a] X.env = [(false, eval a X.env)] := by rfl) : DI X W tg (.Call (.Name "range" p) [a] [] pos) (gRange1 fs) := by
  refine PImono (pi_range1 hg hm ha hs) fun σ H R h => ?_
  obtain ⟨β, ρ, st, hρ, hs, h⟩ := h
  refine tDA_intro hρ hs (Out.sat_bind h) (fun d s1 h1 v β1 H1 e1 S1 r1 => ?_) fun _ _ q => q
  obtain ⟨l, q, p⟩ := oout_sat h1
  unfold mRange1 at q
  split at q
  · rename_i n
    split at q
    · rename_i hz
      cases q
      obtain ⟨v, rfl, r⟩ := r1.one
      cases r
      exact ⟨n, rfl, by omega, by omega, p _ β1 H1 e1 S1 (itd_r 0 n.toNat) (by show ((List.range n.toNat).map fun i : Nat => D.int (0 + (i : Int))).length ≤ _; rw [List.length_map, List.length_range]; exact leLIM (by show n.toNat ≤ 1000000; omega))⟩
    · cases q
  · cases q
theorem di_range2 {a b : Expr} {fs : G (List D)} {p pos : Pos} (hg : Gl X "range") (hm : X.mg "range" = none) (ha : DA X W [a, b] fs) (hs : starEach [a, b] X.env = [(false, eval a X.env), (false, eval b X.env)] := by rfl) (hs2 : starEach [b] X.env = [(false, eval b X.env)] := by rfl) : DI X W tg (.Call (.Name "range" p) [a, b] [] pos) (gRange2 fs) := by
  refine PImono (pi_range2 hg hm ha hs hs2) fun σ H R h => ?_
  obtain ⟨β, ρ, st, hρ, hs, h⟩ := h
  refine tDA_intro hρ hs (Out.sat_bind h) (fun d s1 h1 v β1 H1 e1 S1 r1 => ?_) fun _ _ q => q
  obtain ⟨l, q, p⟩ := oout_sat h1
  unfold mRange2 at q
  split at q
  · rename_i n m
    split at q
    · rename_i hz
      cases q
      obtain ⟨v, w, rfl, r, r'⟩ := r1.two
      cases r
      cases r'
      exact ⟨n, m, rfl, by omega, p _ β1 H1 e1 S1 (itd_r n (m - n).toNat) (by show ((List.range (m - n).toNat).map fun i : Nat => D.int (n + (i : Int))).length ≤ _; rw [List.length_map, List.length_range, sizeLine_eq]; omega)⟩
    · cases q
  · cases q
theorem di_zip {e e2 : Expr} {fs : G (List D)} {elts : List Expr} {kk : Nat} {tpos p pos : Pos} (hg : Gl X "zip") (hm : X.mg "zip" = none) (ha : DA X W [e, e2] fs) (hs : starEach [e, e2] X.env = (false, eval e X.env) :: starEach [e2] X.env := by rfl) (hpl : (backTo pos (starEach [e2] X.env)).any (·.1) = false := by rfl) :
    DI X W (.Tuple elts kk tpos) (.Call (.Name "zip" p) [e, e2] [] pos) (gZip fs) := by
  refine PImono (RZ.pi_zipA hg hm ha hs hpl) fun σ H R h => ?_
  obtain ⟨β, ρ, st, hρ, hs, h⟩ := h
  refine tDA_intro hρ hs (Out.sat_bind h) (fun d s1 h1 v β1 H1 e1 S1 r1 => ?_) fun _ _ q => q
  obtain ⟨l, q, p⟩ := oout_sat h1
  unfold mZip at q
  split at q
  · rename_i a b
    cases q
    obtain ⟨v, w, rfl, r, r'⟩ := r1.two
    cases r with
    | tup h1 h2 h3 =>
      cases r' with
      | tup g1 g2 g3 => exact ⟨_, _, _, _, rfl, .inr ⟨h1, g1, p _ β1 H1 e1 S1 (itd_zt h1 g1 h2 g2) (by rw [zipD_len]; omega)⟩⟩
  · cases q

/-! ### list comprehensions -/
def Out.nox {α : Type} (o : Out α) : Out α := match o with
  | .exn _ _ => .bad
  | o => o
theorem Out.nox_sat {α : Type} {o : Out α} {P : α → Sto → Prop} {E E' : Exn → Sto → Prop} (h : o.nox.sat P E) : o.sat P E' := by
  cases o with
  | ok a st => exact h
  | exn x st => exact h.elim
  | bad => exact h
def compGo (ρ : Env) (p : Pat) (t : G Bool) (e : G D) : List D → Sto → Out (List D)
  | [], st => .ok [] st
  | d :: ds, st => match Pat.set p d ρ with
    | none => .bad
    | some ρ1 => (t ρ1 st).nox.bind fun b s1 => if b then (e ρ1 s1).nox.bind fun y s2 => (compGo ρ p t e ds s2).bind fun ys s3 => .ok (y :: ys) s3 else compGo ρ p t e ds s1
def gComp (vs : List Nat) (f : G (List D)) (p : Pat) (t : G Bool) (e : G D) : G D := fun ρ st => (f ρ st).bind fun items s1 => (compGo (wipeE ρ vs) p t e items s1).bind fun ys s2 => .ok (.lst ys) s2
def gYes : G Bool := fun _ st => .ok true st
abbrev WF : WX := fun _ _ _ _ => False
abbrev DTs (X : Cx) (W : WX) (ifs : List Expr) (f : G Bool) : Prop := PTs X ifs (tDT X.K X.mg W f)
theorem dts_nil : DTs X W [] gYes := by
  have h := pts_nil (X := X)
  obtain ⟨r⟩ := h
  refine ⟨fun pins s σ H Q I q => r pins s σ H Q I ?_⟩
  obtain ⟨β, ρ, st, hρ, hs, h⟩ := q
  exact h β H (Ext.refl β H) hs
theorem dts_one {c : Expr} {t : G Bool} (h : DT X W c t) : DTs X W [c] t := pts_one h
theorem compGo_len {ρ : Env} {p : Pat} {t : G Bool} {e : G D} : ∀ {ds : List D} {st : Sto} {ys : List D} {st' : Sto}, compGo ρ p t e ds st = .ok ys st' → ys.length ≤ ds.length
  | [], st, ys, st', h => by
    simp only [compGo, Out.ok.injEq] at h
    rw [← h.1]
    exact Nat.zero_le _
  | d :: ds, st, ys, st', h => by
    simp only [compGo] at h
    split at h
    · cases h
    · cases q : (t _ st).nox with
      | bad => rw [q] at h; cases h
      | exn x s => rw [q] at h; cases h
      | ok b s1 =>
        rw [q] at h
        simp only [Out.bind_ok] at h
        split at h
        · cases q2 : (e _ s1).nox with
          | bad => rw [q2] at h; cases h
          | exn x s => rw [q2] at h; cases h
          | ok y s2 =>
            rw [q2] at h
            simp only [Out.bind_ok] at h
            cases q3 : compGo ρ p t e ds s2 with
            | bad => rw [q3] at h; cases h
            | exn x s => rw [q3] at h; cases h
            | ok zs s3 =>
              rw [q3] at h
              simp only [Out.bind_ok, Out.ok.injEq] at h
              have := compGo_len q3
              rw [← h.1, List.length_cons, List.length_cons]
              omega
        · have := compGo_len h
          rw [List.length_cons]
          omega
/-- the loop of a comprehension, told by data; fin: what is wanted of the whole list at D', which the machine still holds -/
theorem lc_d {K : PySem.W.Frag} {mg : Str → Option Value} {vs : List Nat} {p : Pat} {t : G Bool} {e : G D} {σ : L2.St} {ρ : Env} {items : List D} {J : It} {β1 : Bx} {H1 : Hp} {s1 : Sto} {R : Addr → Hp → Prop} (hsl : ∀ i ∈ p.slots, i ∈ vs) (hl : items.length ≤ sizeLine)
    (hρ : RepEnv K β1 H1 σ ρ) (S1 : StoOk K β1 H1 s1) (it : ItD K β1 H1 J items) {D' : Addr} (hD : H1 D' = none)
    (fin : (compGo (wipeE ρ vs) p t e items s1).sat (fun ys s2 => ∀ β2 H2 xs, Ext (β1.hold D') (upd H1 D' (.lst xs)) β2 H2 → StoOk K β2 H2 s2 → H2 D' = some (.lst xs) → Reps K β2 H2 xs ys → ys.length ≤ sizeLine → R D' H2) (fun _ _ => False)) :
    ∃ Wi : Nat → Nat → Hp → Prop, (∃ m, Wi 0 m (upd H1 D' (.lst []))) ∧ ∀ i m H, Wi i m H →
      (J.stop i H ∧ R D' H) ∨ (J.go i H ∧ ∃ Nx : Hp → Prop, (∀ H', Nx H' → ∃ m', m' < m ∧ Wi (i + 1) m' H') ∧ ∀ x H', J.yld i H x H' → p.tg K x (L2.wipe σ vs) H' fun σ2 H2 => L2.wipe σ2 vs = L2.wipe σ vs ∧ tDT K mg WF t σ2 H2 fun b H3 =>
        if b = true then tD K mg WF e σ2 H3 fun y H4 => ∃ acc, H4 D' = some (.lst acc) ∧ acc.length < sizeLine ∧ Nx (upd H4 D' (.lst (acc ++ [y]))) else Nx H3) := by
  have mv0 : Mv β1 H1 (β1.hold D') (upd H1 D' (.lst [])) := Mv.hold hD
  -- the invariant: behind i items acc is made, the rest makes the whole
  let Iv : Nat → Hp → Prop := fun i H => i ≤ items.length ∧ ∃ β st acc ad, Ext (β1.hold D') (upd H1 D' (.lst acc)) β H ∧ StoOk K β H st ∧ H D' = some (.lst acc) ∧ Reps K β H acc ad ∧ ad.length ≤ i ∧
    (compGo (wipeE ρ vs) p t e (items.drop i) st).sat (fun ys s2 => ∀ β2 H2 xs, Ext (β1.hold D') (upd H1 D' (.lst xs)) β2 H2 → StoOk K β2 H2 s2 → H2 D' = some (.lst xs) → Reps K β2 H2 xs (ad ++ ys) → (ad ++ ys).length ≤ sizeLine → R D' H2) (fun _ _ => False)
  have inLo : ∀ {β : Bx} {H : Hp} {acc : List V}, Ext (β1.hold D') (upd H1 D' (.lst acc)) β H → D' ∈ β.pv ∧ D' ∉ β.lo := fun {β H acc} ex => by
    refine ⟨by rw [ex.pv]; exact List.mem_cons_self, fun z => ?_⟩
    obtain ⟨new, e1, f⟩ := ex.pre
    rw [e1] at z
    rcases List.mem_append.mp z with z | z
    · exact (S1.nmem hD).1 z
    · obtain ⟨ps, q⟩ := f D' z (.lst acc) (by rw [upd_same])
      cases q
  refine ⟨fun i m H => m = items.length - i ∧ Iv i H, ⟨items.length, by simp, Nat.zero_le _, β1.hold D', s1, [], [], Ext.refl _ _, S1.hold hD, upd_same, .nil, Nat.le_refl _, by simpa using fin⟩, ?_⟩
  rintro i m H ⟨rfl, hi, β, st, acc, ad, ex, S, hA, ra, la, go⟩
  have mvh : Mv β1 H1 β H := (Mv.hold (o := .lst acc) hD).trans ex.mv
  by_cases hlt : i < items.length
  · refine .inr ⟨it.go _ H i mvh hlt, fun H' => Iv (i + 1) H', fun H' hq => ⟨items.length - (i + 1), by omega, rfl, hq⟩, fun x H' hy => ?_⟩
    have hd : items[i]? = some items[i] := List.getElem?_eq_getElem hlt
    obtain ⟨sm, rx⟩ := it.yld _ H i x H' items[i] mvh hd hy
    have hdrop : items.drop i = items[i] :: items.drop (i + 1) := List.drop_eq_getElem_cons hlt
    rw [hdrop] at go
    simp only [compGo] at go
    split at go
    · exact go.elim
    · rename_i ρ1 hset
      have ex2 : Ext (β1.hold D') (upd H1 D' (.lst acc)) β H' := ex.trans (Ext.same sm)
      have mv1 : Mv β1 H1 β H' := (Mv.hold (o := .lst acc) hD).trans ex2.mv
      have hρ' : RepEnv K β H' (L2.wipe σ vs) (wipeE ρ vs) := RepEnv.wipe ⟨hρ.1, fun j d q => by
        obtain ⟨v, h1, h2⟩ := hρ.2 j d q
        exact ⟨v, h1, Rep.move mv1 _ _ h2⟩⟩ vs
      refine pat_ok p x items[i] _ _ ρ1 _ rx hset hρ' fun σ2 hσ2 k2 l2 => ⟨?_, ?_⟩
      · refine (wipe_same l2 fun j hj => k2 j fun z => hj (hsl j z)).trans ?_
        refine wipe_same (by rw [wipe_length]) fun j hj => ?_
        rw [wipe_get, if_neg hj]
      · have S' := S.same sm
        have hA' : H' D' = some (.lst acc) := sm _ _ hA
        refine ⟨β, ρ1, st, hσ2, S', (Out.nox_sat (Out.sat_bind go)).mono (E := fun _ _ => False) (fun b s2 hb β3 H3 e3 S3 => ?_) fun _ _ z => z.elim⟩
        have hA3 : H3 D' = some (.lst acc) := e3.keep _ _ (inLo ex).2 hA' fun ps z => by cases z
        have ex3 := ex2.trans e3
        have ra3 : Reps K β3 H3 acc ad := Reps.ext ((Ext.same sm).trans e3) _ _ ra
        cases b with
        | false => exact ⟨hlt, β3, s2, acc, ad, ex3, S3, hA3, ra3, Nat.le_succ_of_le la, hb⟩
        | true =>
          rw [if_pos rfl] at hb
          refine ⟨β3, ρ1, s2, hσ2.ext e3, S3, (Out.nox_sat (Out.sat_bind hb)).mono (E := fun _ _ => False) (fun y s4 hy4 v4 β4 H4 e4 S4 r4 => ?_) fun _ _ z => z.elim⟩
          have hA4 : H4 D' = some (.lst acc) := e4.keep _ _ (inLo ex3).2 hA3 fun ps z => by cases z
          have ex4 := ex3.trans e4
          have ra4 : Reps K β4 H4 acc ad := Reps.ext e4 _ _ ra3
          have hal : acc.length ≤ i := by rw [ra4.length]; exact la
          refine ⟨acc, hA4, by omega, hlt, β4, s4, acc ++ [v4], ad ++ [y], ?_, S4.poke (inLo ex4).1 (inLo ex4).2 hA4, upd_same, ?_, by rw [List.length_append]; simpa using la, ?_⟩
          · exact Ext.poke hD ex4 hA4
          · exact Reps.move (Mv.poke (inLo ex4).1 hA4) _ _ (ra4.append (.cons r4 .nil))
          · refine (Out.sat_bind hy4).mono (fun ys s5 h5 β5 H5 xs e5 S5 hA5 r5 l5 => ?_) fun _ _ z => z
            exact h5 β5 H5 xs e5 S5 hA5 (by simpa using r5) (by simpa using l5)
  · have e0 : i = items.length := by omega
    subst e0
    refine .inl ⟨it.stop _ H _ mvh (Nat.le_refl _), ?_⟩
    rw [List.drop_length] at go
    exact go β H acc ex S hA (by simpa using ra) (by simp only [List.append_nil]; omega)
end
end DL

set_option Elab.async false
set_option linter.all false
set_option maxRecDepth 100000
set_option maxHeartbeats 2000000
namespace DL
open PySem PySem.Spec L2
open PyProof.Rows hiding St

theorem bind_ex {α β : Type} {o : Out α} {k : α → Sto → Out β} {x : Exn} {s : Sto} (h : o.bind k = .exn x s) : o = .exn x s ∨ ∃ a s1, o = .ok a s1 ∧ k a s1 = .exn x s := by
  cases o with
  | ok a s1 => exact .inr ⟨a, s1, rfl, h⟩
  | exn y s1 => exact .inl (by cases h; rfl)
  | bad => cases h
theorem nox_ex {α : Type} {o : Out α} {x : Exn} {s : Sto} (h : o.nox = .exn x s) : False := by
  cases o <;> cases h
theorem compGo_ex {ρ : Env} {p : Pat} {t : G Bool} {e : G D} {x : Exn} {s : Sto} : ∀ {ds : List D} {st : Sto}, compGo ρ p t e ds st ≠ .exn x s
  | [], st, h => by cases h
  | d :: ds, st, h => by
    simp only [compGo] at h
    split at h
    · cases h
    · rcases bind_ex h with h | ⟨b, s1, _, h⟩
      · exact nox_ex h
      · split at h
        · rcases bind_ex h with h | ⟨y, s2, _, h⟩
          · exact nox_ex h
          · rcases bind_ex h with h | ⟨ys, s3, _, h⟩
            · exact compGo_ex h
            · cases h
        · exact compGo_ex h
theorem sat_noex {α : Type} {o : Out α} {P : α → Sto → Prop} {E E' : Exn → Sto → Prop} (h : o.sat P E) (n : ∀ x s, o ≠ .exn x s) : o.sat P E' := by
  cases o with
  | ok a st => exact h
  | exn x st => exact absurd rfl (n x st)
  | bad => exact h
/-- .. the list is one that is written -/
def gCompM (vs : List Nat) (f : G (List D)) (p : Pat) (t : G Bool) (e : G D) : G D := fun ρ st => (f ρ st).bind fun items s1 => (compGo (wipeE ρ vs) p t e items s1).bind fun ys s2 => .ok (.ref s2.length) (s2 ++ [.lst ys])
section
variable {X : Cx} {W : WX} {pos : Pos} {elt tg iter : Expr} {ifs : List Expr} {scope : Scope} {own : List (Str × Nat)} {fi : G (List D)} {p : Pat} {t : G Bool} {e : G D}
theorem inLo_of {K : PySem.W.Frag} {β1 β : Bx} {H1 H : Hp} {s1 : Sto} {D' : Addr} {ys : List V} (S1 : StoOk K β1 H1 s1) (hD : H1 D' = none) (ex : Ext (β1.hold D') (upd H1 D' (.lst ys)) β H) : D' ∉ β.lo := fun z => by
  obtain ⟨new, e1, f⟩ := ex.pre
  rw [e1] at z
  rcases List.mem_append.mp z with z | z
  · exact (S1.nmem hD).1 z
  · obtain ⟨ps, q⟩ := f D' z (.lst ys) (by rw [upd_same])
    cases q
theorem tLc_of {K : PySem.W.Frag} {mg : Str → Option Value} {vs : List Nat} {σ : L2.St} {H : Hp} {Q : VK} (hsl : ∀ i ∈ p.slots, i ∈ vs) (h : tD K mg W (gComp vs fi p t e) σ H Q) : tLc (tDI K mg W fi) (p.tg K) (tDT K mg WF t) (tD K mg WF e) vs σ H Q := by
  obtain ⟨β, ρ, st, hρ, hs, h⟩ := h
  refine ⟨β, ρ, st, hρ, hs, (Out.sat_bind h).mono (fun items s1 h1 J β1 H1 e1 S1 it hl D' hD => ?_) fun _ _ q => q⟩
  refine lc_d (R := fun D H => Q (.ref D) H) hsl hl (hρ.ext e1) S1 it hD ((sat_noex (Out.sat_bind h1) (fun _ _ => compGo_ex)).mono (fun ys s2 p2 β2 H2 xs ex S2 hA r2 l2 => ?_) fun _ _ z => z)
  have hs' : ∀ a ∈ β1.pv, a ∈ β2.pv := fun a ha => by rw [ex.pv]; exact List.mem_cons_of_mem _ ha
  exact p2 (.ref D') (β2.back β1.pv) H2 (e1.trans (Ext.held hD ex)) (S2.back hs') (.lst hA ⟨show D' ∉ β2.lo from inLo_of S1 hD ex, (S1.nmem hD).2⟩ (Reps.move (Mv.back hs') _ _ r2) l2)
theorem tLc_ofM {K : PySem.W.Frag} {mg : Str → Option Value} {vs : List Nat} {σ : L2.St} {H : Hp} {Q : VK} (hsl : ∀ i ∈ p.slots, i ∈ vs) (h : tD K mg W (gCompM vs fi p t e) σ H Q) : tLc (tDI K mg W fi) (p.tg K) (tDT K mg WF t) (tD K mg WF e) vs σ H Q := by
  obtain ⟨β, ρ, st, hρ, hs, h⟩ := h
  refine ⟨β, ρ, st, hρ, hs, (Out.sat_bind h).mono (fun items s1 h1 J β1 H1 e1 S1 it hl D' hD => ?_) fun _ _ q => q⟩
  refine lc_d (R := fun D H => Q (.ref D) H) hsl hl (hρ.ext e1) S1 it hD ((sat_noex (Out.sat_bind h1) (fun _ _ => compGo_ex)).mono (fun ys s2 p2 β2 H2 xs ex S2 hA r2 l2 => ?_) fun _ _ z => z)
  have hs' : ∀ a ∈ β1.pv, a ∈ β2.pv := fun a ha => by rw [ex.pv]; exact List.mem_cons_of_mem _ ha
  have hb := S2.back hs'
  have nl := inLo_of S1 hD ex
  have np := (S1.nmem hD).2
  have eh := Ext.held hD ex
  -- D' becomes the next of the written things
  have mv : Mv (β2.back β1.pv) H2 ((β2.back β1.pv).add D') H2 → True := fun _ => trivial
  have mvx : Mv β2 H2 ((β2.back β1.pv).add D') H2 := by
    have hp : D' ∈ β2.pv := by rw [ex.pv]; exact List.mem_cons_self
    refine ⟨fun a xs' ha n => ⟨ha, fun z => ?_, fun z => n.2 (hs' a z)⟩, fun _ _ q => q, fun _ _ _ q => q, fun n a q => ?_, fun _ _ q => q⟩
    · rcases List.mem_append.mp z with z | z
      · exact n.1 z
      · rw [List.mem_singleton.mp z] at n
        exact n.2 hp
    · show (β2.lo ++ [D'])[n]? = some a
      rw [List.getElem?_append_left (List.getElem?_eq_some_iff.mp q).1]
      exact q
  have So : StoOk K ((β2.back β1.pv).add D') H2 (s2 ++ [.lst ys]) := by
    refine ⟨by simp [Bx.add, Bx.back, S2.len], ?_, fun n a u q1 q2 => ?_, fun q hq => hb.priv q hq⟩
    · exact List.nodup_append.mpr ⟨S2.nd, by simp, fun x hx y hy => by rw [List.mem_singleton.mp hy]; exact fun z => nl (z ▸ hx)⟩
    · have q1 : (β2.lo ++ [D'])[n]? = some a := q1
      by_cases hn : n < β2.lo.length
      · rw [List.getElem?_append_left hn] at q1
        rw [List.getElem?_append_left (by rw [← S2.len]; exact hn)] at q2
        exact (S2.obj n a u q1 q2).move mvx fun _ z => z
      · have hn' : n = β2.lo.length := by
          have := (List.getElem?_eq_some_iff.mp q1).1
          simp at this
          omega
        subst hn'
        rw [List.getElem?_append_right (Nat.le_refl _)] at q1
        rw [S2.len, List.getElem?_append_right (Nat.le_refl _)] at q2
        simp at q1 q2
        subst q1 q2
        exact ⟨xs, hA, Reps.move mvx _ _ r2⟩
  refine p2 (.ref D') ((β2.back β1.pv).add D') H2 (e1.trans ?_) So (.ref ?_)
  · obtain ⟨new, z1, z2⟩ := eh.pre
    refine ⟨⟨new ++ [D'], ?_, fun q hq => ?_⟩, rfl, eh.keep, eh.tup, eh.frz, eh.dom, eh.cod⟩
    · show β2.lo ++ [D'] = β1.lo ++ (new ++ [D'])
      rw [← List.append_assoc, ← z1]
      rfl
    · rcases List.mem_append.mp hq with hq | hq
      · exact z2 q hq
      · rw [List.mem_singleton.mp hq]; exact Free.none hD
  · show (β2.lo ++ [D'])[s2.length]? = some D'
    rw [← S2.len]
    simp
theorem de_comp (hc : X.calm = true) (hN : X.N.Nodup) (hi : DI X W tg iter fi) (ok : BlkOk X.N X.env.scope scope own) (hsl : ∀ i ∈ p.slots, i ∈ own.map (·.2))
    (hg : ∀ (s : Shared) (H : Hp) (C : Addr) (cl : List (Str × Addr)) (fp : List Addr), DG (X.blk s H scope (compEnvC scope cl C X.env) fp) tg p) (ht : ∀ (s : Shared) (H : Hp) (C : Addr) (cl : List (Str × Addr)) (fp : List Addr), DTs (X.blk s H scope (compEnvC scope cl C X.env) fp) WF ifs t)
    (he : ∀ (s : Shared) (H : Hp) (C : Addr) (cl : List (Str × Addr)) (fp : List Addr), DE (X.blk s H scope (compEnvC scope cl C X.env) fp) WF elt e) (hs : ∀ x, foldedSetIterable iter X.env x = pure x := by intro _; rfl) :
    DE X W (.ListComp elt [⟨tg, iter, ifs, 0⟩] scope pos) (gComp (own.map (·.2)) fi p t e) :=
  PEmono (pe_lc hc hN hi ok hg ht he hs) fun _ _ _ h => tLc_of hsl h
theorem de_compM (hc : X.calm = true) (hN : X.N.Nodup) (hi : DI X W tg iter fi) (ok : BlkOk X.N X.env.scope scope own) (hsl : ∀ i ∈ p.slots, i ∈ own.map (·.2))
    (hg : ∀ (s : Shared) (H : Hp) (C : Addr) (cl : List (Str × Addr)) (fp : List Addr), DG (X.blk s H scope (compEnvC scope cl C X.env) fp) tg p) (ht : ∀ (s : Shared) (H : Hp) (C : Addr) (cl : List (Str × Addr)) (fp : List Addr), DTs (X.blk s H scope (compEnvC scope cl C X.env) fp) WF ifs t)
    (he : ∀ (s : Shared) (H : Hp) (C : Addr) (cl : List (Str × Addr)) (fp : List Addr), DE (X.blk s H scope (compEnvC scope cl C X.env) fp) WF elt e) (hs : ∀ x, foldedSetIterable iter X.env x = pure x := by intro _; rfl) :
    DE X W (.ListComp elt [⟨tg, iter, ifs, 0⟩] scope pos) (gCompM (own.map (·.2)) fi p t e) :=
  PEmono (pe_lc hc hN hi ok hg ht he hs) fun _ _ _ h => tLc_ofM hsl h
end

/-! ### statements -/
theorem xs_x {K : PySem.W.Frag} {mg : Str → Option Value} {W : WX} {β : Bx} {H : Hp} {σ : L2.St} {x : Exn} {st : Sto} (p : PostXS K mg W β H x st) : PostX K mg (fun c d H' => W c d σ H') β H x st := fun c d β' H' e S r => p c d σ β' H' e S r
theorem PostXS.ext {K : PySem.W.Frag} {mg : Str → Option Value} {W : WX} {β β' : Bx} {H H' : Hp} {x : Exn} {st : Sto} (p : PostXS K mg W β H x st) (e : Ext β H β' H') : PostXS K mg W β' H' x st := fun c d σ β2 H2 e2 => p c d σ β2 H2 (e.trans e2)
theorem PostF.ext {K : PySem.W.Frag} {D' : Ends} {β β' : Bx} {H H' : Hp} {f : Fl} {st : Sto} (p : PostF K D' β H f st) (e : Ext β H β' H') : PostF K D' β' H' f st := by
  cases f with
  | nx ρ => exact fun σ β2 H2 e2 => p σ β2 H2 (e.trans e2)
  | rt d => exact fun v β2 H2 e2 => p v β2 H2 (e.trans e2)
  | bk ρ => exact fun σ β2 H2 e2 => p σ β2 H2 (e.trans e2)
  | ct ρ => exact fun σ β2 H2 e2 => p σ β2 H2 (e.trans e2)
def sSet (i : Nat) (f : G D) : G Fl := fun ρ st => (f ρ st).bind fun d s1 => .ok (.nx (ρ.set i (some d))) s1
def sPat (p : Pat) (f : G D) : G Fl := fun ρ st => (f ρ st).bind fun d s1 => match Pat.set p d ρ with
  | some ρ' => .ok (.nx ρ') s1
  | none => .bad
def sPar (i j : Nat) (f : G (List D)) : G Fl := fun ρ st => (f ρ st).bind fun ds s1 => match ds with
  | [a, b] => .ok (.nx ((ρ.set i (some a)).set j (some b))) s1
  | _ => .bad
def sRet (f : G D) : G Fl := fun ρ st => (f ρ st).bind fun d s1 => .ok (.rt d) s1
def sDrop (f : G D) : G Fl := fun ρ st => (f ρ st).bind fun _ s1 => .ok (.nx ρ) s1
def sNext : G Fl := fun ρ st => .ok (.nx ρ) st
def sBreak : G Fl := fun ρ st => .ok (.bk ρ) st
def sCont : G Fl := fun ρ st => .ok (.ct ρ) st
def sBad : G Fl := fun _ _ => .bad
def sSeq (f g : G Fl) : G Fl := fun ρ st => (f ρ st).bind fun r s1 => match r with
  | .nx ρ' => g ρ' s1
  | r => .ok r s1
def sIf (t : G Bool) (f g : G Fl) : G Fl := fun ρ st => (t ρ st).bind fun k s1 => if k then f ρ s1 else g ρ s1
def sAug (m : D → D → Sto → Option D) (i : Nat) (f : G D) : G Fl := fun ρ st => (gVar i ρ st).bind fun x s0 => (f ρ s0).bind fun d s1 => (oout (m x d s1) s1).bind fun z s1 => .ok (.nx (ρ.set i (some z))) s1
def forGo (p : Pat) (b : G Fl) : List D → Env → Sto → Out Fl
  | [], ρ, st => .ok (.nx ρ) st
  | d :: ds, ρ, st => match Pat.set p d ρ with
    | none => .bad
    | some ρ1 => (b ρ1 st).bind fun r s1 => match r with
      | .nx ρ' => forGo p b ds ρ' s1
      | .ct ρ' => forGo p b ds ρ' s1
      | .bk ρ' => .ok (.nx ρ') s1
      | .rt d => .ok (.rt d) s1
def sFor (f : G (List D)) (p : Pat) (b : G Fl) : G Fl := fun ρ st => (f ρ st).bind fun items s1 => forGo p b items ρ s1
section
variable {X : Cx} {W : WX} {pos : Pos} {a b c e tg iter : Expr} {es : List Expr} {f g : G D} {t : G Bool} {fs : G (List D)} {st : Stmt} {rest : List Stmt} {u v : G Fl}
theorem ds_set (i : Nat) {x : Str} {pos' : Pos} (hN : X.N.Nodup) (hi : X.N[i]? = some x) (hx : Loc X.env.scope x) (he : DE X W e f) (hs : swapsWith e (some (.Name x pos')) pos.line X.env = pure false := by rfl)
    (hf : X.fn x = true ∨ X.env.scope.names.lookup x = some .local := by first | exact .inl rfl | exact .inr rfl | assumption) : DS X W (.Assign [.Name x pos'] e pos) (sSet i f) := by
  refine PSmono (ps_set hN hi hx he hs hf) fun D' σ H h => ?_
  obtain ⟨β, ρ, st, hρ, hs, h⟩ := h
  refine tD_intro hρ hs (Out.sat_bind h) (fun d s1 h1 v β1 H1 e1 S1 r1 => ?_) fun _ _ q => xs_x q
  exact h1 _ β1 H1 e1 S1 ((hρ.ext e1).set i r1)
theorem ds_pat {p : Pat} (he : DE X W e f) (hg : DG X tg p) (hs : swapsWithSole [tg] e pos.line X.env = pure false := by rfl) (hw : swappedStores [tg] e X.env = pure none := by rfl)
    (h1 : (assignEach [tg] X.env).map (·.2) = [assign tg X.env] := by rfl) : DS X W (.Assign [tg] e pos) (sPat p f) := by
  refine PSmono (ps_asg he hg hs hw h1) fun D' σ H h => ?_
  obtain ⟨β, ρ, st, hρ, hs, h⟩ := h
  refine tD_intro hρ hs (Out.sat_bind h) (fun d s1 h1 v β1 H1 e1 S1 r1 => ?_) fun _ _ q => xs_x q
  split at h1
  · rename_i ρ' hp
    exact pat_ok p v d σ ρ ρ' _ r1 hp (hρ.ext e1) fun σ' hσ' _ _ => h1 σ' β1 H1 e1 S1 hσ'
  · exact h1.elim
theorem ds_par {i j : Nat} {x y : Str} {px py pt : Pos} {kt k2 pt2} (hc : X.calm = true) (hN : X.N.Nodup) (hi : X.N[i]? = some x) (hj : X.N[j]? = some y) (hij : i ≠ j)
    (hx : X.env.scope.names.lookup x = some .local) (hy : X.env.scope.names.lookup y = some .local) (ha : DA X W [a, b] fs)
    (hw : swappedStores [.Tuple [.Name x px, .Name y py] kt pt] (.Tuple [a, b] k2 pt2) X.env = pure (some [x, y]))
    (hs : swapsWithSole [.Tuple [.Name x px, .Name y py] kt pt] (.Tuple [a, b] k2 pt2) pos.line X.env = pure false := by rfl) :
    DS X W (.Assign [.Tuple [.Name x px, .Name y py] kt pt] (.Tuple [a, b] k2 pt2) pos) (sPar i j fs) := by
  refine PSmono (ps_par hc hN hi hj hij hx hy ha hw hs) fun D' σ H h => ?_
  obtain ⟨β, ρ, st, hρ, hs, h⟩ := h
  refine tDA_intro hρ hs (Out.sat_bind h) (fun ds s1 h1 vs β1 H1 e1 S1 r1 => ?_) fun _ _ q => xs_x q
  split at h1
  · rename_i d1 d2
    obtain ⟨v, w, rfl, q1, q2⟩ := r1.two
    exact ⟨v, w, rfl, h1 _ β1 H1 e1 S1 (((hρ.ext e1).set i q1).set j q2)⟩
  · exact h1.elim
theorem ds_ret (he : DE X W e f) : DS X W (.Return (some e) pos) (sRet f) := by
  refine PSmono (ps_ret he) fun D' σ H h => ?_
  obtain ⟨β, ρ, st, hρ, hs, h⟩ := h
  exact tD_intro hρ hs (Out.sat_bind h) (fun d s1 h1 v β1 H1 e1 S1 r1 => h1 v β1 H1 e1 S1 r1) fun _ _ q => xs_x q
theorem ds_retN : DS X W (.Return none pos) (sRet (gC .non)) := by
  refine PSmono ps_retN fun D' σ H h => ?_
  obtain ⟨β, ρ, st, hρ, hs, h⟩ := h
  exact h .non β H (Ext.refl β H) hs .non
theorem ds_expr (he : DE X W e f) (hs : swapsWith e none pos.line X.env = pure false := by rfl) : DS X W (.Expr e pos) (sDrop f) := by
  refine PSmono (ps_expr he hs) fun D' σ H h => ?_
  obtain ⟨β, ρ, st, hρ, hs, h⟩ := h
  exact tD_intro hρ hs (Out.sat_bind h) (fun d s1 h1 v β1 H1 e1 S1 r1 => h1 σ β1 H1 e1 S1 (hρ.ext e1)) fun _ _ q => xs_x q
theorem ds_next {st : Stmt} (h : PS X st tNext) : DS X W st sNext := PSmono h fun D' σ H h => by
  obtain ⟨β, ρ, st, hρ, hs, h⟩ := h
  exact h σ β H (Ext.refl β H) hs hρ
theorem ds_doc {x j pos'} : DS X W (.Expr (.Constant (.str x) j pos) pos') sNext := ds_next ps_doc
theorem ds_pass : DS X W (.Pass pos) sNext := ds_next ps_pass
theorem ds_break : DS X W (.Break pos) sBreak := PSmono ps_break fun D' σ H h => by
  obtain ⟨β, ρ, st, hρ, hs, h⟩ := h
  exact h σ β H (Ext.refl β H) hs hρ
theorem ds_cont : DS X W (.Continue pos) sCont := PSmono ps_continue fun D' σ H h => by
  obtain ⟨β, ρ, st, hρ, hs, h⟩ := h
  exact h σ β H (Ext.refl β H) hs hρ
/-- what is never come to -/
theorem ds_bad {st : Stmt} : DS X W st sBad := ⟨fun _ _ _ _ _ _ h => by
  obtain ⟨_, _, _, _, _, h⟩ := h
  exact h.elim⟩
theorem dss_bad {st : List Stmt} : DSs X W st sBad := ⟨fun _ _ _ _ _ _ h => by
  obtain ⟨_, _, _, _, _, h⟩ := h
  exact h.elim⟩
theorem dss_nil : DSs X W [] sNext := PSsmono pss_nil fun D' σ H h => by
  obtain ⟨β, ρ, st, hρ, hs, h⟩ := h
  exact h σ β H (Ext.refl β H) hs hρ
theorem dss_one (h : DS X W st u) : DSs X W [st] u := pss_one h
theorem seq_post {K : PySem.W.Frag} {mg : Str → Option Value} {g : G Fl} {D' : Ends} {β : Bx} {H : Hp} {r : Fl} {s1 : Sto} (h : (match r with | .nx ρ' => g ρ' s1 | r => .ok r s1 : Out Fl).sat (PostF K D' β H) (PostXS K mg W β H)) : PostF K { D' with nx := tDS K mg W g D' } β H r s1 := by
  cases r with
  | nx ρ => exact fun σ β' H' e S r => ⟨β', ρ, s1, r, S, h.mono (fun _ _ q => q.ext e) fun _ _ q => q.ext e⟩
  | rt d => exact h
  | bk ρ => exact h
  | ct ρ => exact h
theorem dss_cons (h1 : DS X W st u) (h2 : DSs X W rest v) : DSs X W (st :: rest) (sSeq u v) := by
  refine PSsmono (pss_cons h1 h2) fun D' σ H h => ?_
  obtain ⟨β, ρ, st, hρ, hs, h⟩ := h
  exact ⟨β, ρ, st, hρ, hs, (Out.sat_bind h).mono (fun r s1 q => seq_post q) fun _ _ q => q⟩
theorem ds_if {sa sb : List Stmt} (hc : DT X W c t) (ha : DSs X W sa u) (hb : DSs X W sb v) : DS X W (.If c sa sb pos) (sIf t u v) := by
  refine PSmono (ps_if hc ha hb) fun D' σ H h => ?_
  obtain ⟨β, ρ, st, hρ, hs, h⟩ := h
  refine tDT_intro hρ hs (Out.sat_bind h) (fun k s1 h1 β1 H1 e1 S1 => ?_) fun _ _ q => xs_x q
  cases k with
  | true => exact ⟨β1, ρ, s1, hρ.ext e1, S1, Out.sat.mono h1 (fun _ _ z => z.ext e1) fun _ _ z => z.ext e1⟩
  | false => exact ⟨β1, ρ, s1, hρ.ext e1, S1, Out.sat.mono h1 (fun _ _ z => z.ext e1) fun _ _ z => z.ext e1⟩
theorem ds_for {p : Pat} {fi : G (List D)} {body : List Stmt} (hp : PassesOwn (model X.prog X.w) X.A X.env X.xe) (hc : X.calm = true) (hi : DI X W tg iter fi) (hg : DG X tg p) (hb : DSs X W body u)
    (hs : ∀ x, foldedSetIterable iter X.env x = pure x := by intro _; rfl) : DS X W (.For tg iter body [] pos) (sFor fi p u) := by
  refine PSmono (ps_for hp hc hi hg hb hs) fun D' σ H h => ?_
  obtain ⟨β, ρ, st, hρ, hs, h⟩ := h
  refine ⟨β, ρ, st, hρ, hs, (Out.sat_bind h).mono (fun items s1 h1 J β1 H1 e1 S1 it hl => ?_) fun _ _ q => xs_x q⟩
  let Iv : Nat → L2.St → Hp → Prop := fun i σ H' => i ≤ items.length ∧ ∃ β' ρ' st', Ext β1 H1 β' H' ∧ RepEnv X.K β' H' σ ρ' ∧ StoOk X.K β' H' st' ∧ (forGo p u (items.drop i) ρ' st').sat (PostF X.K D' β H) (PostXS X.K X.mg W β H)
  refine ⟨fun i m σ H => m = items.length - i ∧ Iv i σ H, ⟨items.length, by simp, Nat.zero_le _, β1, ρ, s1, Ext.refl _ _, hρ.ext e1, S1, by simpa using h1⟩, ?_⟩
  rintro i m σ' H' ⟨rfl, hi, β', ρ', st', ex, hρ', S', go⟩
  by_cases hlt : i < items.length
  · refine .inr ⟨it.go _ _ i ex.mv hlt, fun σ H => Iv (i + 1) σ H, fun σ2 H2 hq => ⟨items.length - (i + 1), by omega, rfl, hq⟩, fun x H2 hy => ?_⟩
    have hd : items[i]? = some items[i] := List.getElem?_eq_getElem hlt
    obtain ⟨sm, rx⟩ := it.yld _ _ i x H2 items[i] ex.mv hd hy
    have hdrop : items.drop i = items[i] :: items.drop (i + 1) := List.drop_eq_getElem_cons hlt
    rw [hdrop] at go
    simp only [forGo] at go
    split at go
    · exact go.elim
    · rename_i ρ1 hset
      have ex2 := ex.trans (Ext.same (β := β') sm)
      refine pat_ok p x items[i] _ _ ρ1 _ rx hset (hρ'.ext (Ext.same sm)) fun σ3 hσ3 _ _ => ?_
      refine ⟨β', ρ1, st', hσ3, S'.same sm, (Out.sat_bind go).mono (fun r s4 h4 => ?_) fun _ _ q => q.ext (e1.trans ex2)⟩
      cases r with
      | nx ρ4 => exact fun σ4 β4 H4 e4 S4 r4 => ⟨hlt, β4, ρ4, s4, ex2.trans e4, r4, S4, h4⟩
      | ct ρ4 => exact fun σ4 β4 H4 e4 S4 r4 => ⟨hlt, β4, ρ4, s4, ex2.trans e4, r4, S4, h4⟩
      | bk ρ4 => exact fun σ4 β4 H4 e4 S4 r4 => h4 σ4 β4 H4 ((e1.trans ex2).trans e4) S4 r4
      | rt d => exact fun v4 β4 H4 e4 S4 r4 => h4 v4 β4 H4 ((e1.trans ex2).trans e4) S4 r4
  · have e0 : i = items.length := by omega
    subst e0
    refine .inl ⟨it.stop _ _ _ ex.mv (Nat.le_refl _), ?_⟩
    rw [List.drop_length] at go
    exact go σ' β' H' (e1.trans ex) S' hρ'
end

/-! ### defs -/
def spD (K : PySem.W.Frag) (mg : Str → Option Value) (n : Nat) (m : List D → Sto → Out D) : Sp := fun vs H Q E => ∃ β ds st, Reps K β H vs ds ∧ StoOk K β H st ∧ vs.length = n ∧ (m ds st).sat (PostV K Q β H) (PostX K mg E β H)
abbrev FnD (P : Program) (w : World) (K : PySem.W.Frag) (mg : Str → Option Value) (base : Heap) (k : Nat) (f : Addr) (fd : FuncData) (ps : List Str) (m : List D → Sto → Out D) : Prop := FnOk P w K mg base (L2.CX P w) k f fd ps (spD K mg ps.length m)
def endD (r : Fl) (st : Sto) : Out D := match r with
  | .rt d => .ok d st
  | .nx _ => .ok .non st
  | _ => .bad
def gFun (n : Nat) (g : G Fl) : List D → Sto → Out D := fun ds st => (g (ds.map some ++ List.replicate (n - ds.length) none) st).bind endD
section
variable {P : Program} {w : World} {K : PySem.W.Frag} {mg : Str → Option Value} {base : Heap}
theorem start_env {β : Bx} {H : Hp} {N : List Str} {vs : List V} {ds : List D} (r : Reps K β H vs ds) : RepEnv K β H (L2.start N vs) (ds.map some ++ List.replicate (N.length - ds.length) none) := by
  refine ⟨by simp [L2.start, r.length], fun i d q => ?_⟩
  by_cases hi : i < ds.length
  · rw [List.getElem?_append_left (by simpa using hi), List.getElem?_map] at q
    cases e : ds[i]? with
    | none => rw [e] at q; cases q
    | some d' =>
      rw [e] at q
      have q := Option.some.inj (Option.some.inj q)
      subst q
      obtain ⟨v, hv, rv⟩ := r.get e
      refine ⟨v, ?_, rv⟩
      unfold L2.start
      rw [List.getElem?_append_left (by rw [List.length_map, r.length]; exact hi), List.getElem?_map, hv]
      rfl
  · rw [List.getElem?_append_right (by simpa using hi)] at q
    rw [List.getElem?_replicate] at q
    split at q <;> cases q
abbrev WE' (E : XK) : WX := fun cls d _ H => E cls d H
theorem fnD_of {x qual : Str} {st : Stmt} {f : Addr} {fd : FuncData} {N ps : List Str} {k : Nat} {g : G Fl} (F : Fun K x qual st f fd) (S : FnScope N ps (defScope st))
    (hb : ∀ (cdv : Value) (A : Around) (outer : List PySem.Env) (s : Shared) (H : Hp) (E : XK), Room k (A.deeper (envOfC qual (defScope st) s.heap.objs.size f cdv)) →
      DSs (cxOf (L2.CX P w) P w K mg base N qual (defScope st) f cdv A outer s H E) (WE' E) (defBody st) g) : FnD P w K mg base (k + 1) f fd ps (gFun N.length g) := by
  refine F.okX S (fun vs H Q E h => ?_) (fun cdv A outer s H vs Q E hr h => ?_)
  · obtain ⟨β, ds, st, r, S, hl, h⟩ := h
    exact hl
  · obtain ⟨β, ds, st, r, S, hl, h⟩ := h
    refine ⟨_, hb cdv A outer s H E hr, β, _, st, start_env r, S, (Out.sat_bind h).mono (fun r s1 q => ?_) fun _ _ q => fun c d σ β' H' e S r => q c d β' H' e S r⟩
    cases r with
    | nx ρ => exact fun σ β' H' e S r => q .non β' H' e S .non
    | rt d => exact q
    | bk ρ => exact q.elim
    | ct ρ => exact q.elim
theorem FnD.imp {k : Nat} {f : Addr} {fd : FuncData} {ps : List Str} {m m' : List D → Sto → Out D} (F : FnD P w K mg base k f fd ps m) (h : ∀ ds st, m' ds st ≠ .bad → m ds st = m' ds st) : FnD P w K mg base k f fd ps m' :=
  FnOk.imp F fun vs H Q E ⟨β, ds, st, r, S, hl, q⟩ => ⟨β, ds, st, r, S, hl, by
    rw [h ds st fun z => by rw [z] at q; exact q]
    exact q⟩
end
def gCall (m : List D → Sto → Out D) (f : G (List D)) : G D := fun ρ st => (f ρ st).bind fun ds s1 => m ds s1
section
variable {X : Cx} {W : WX} {pos p : Pos} {x : Str} {e : Expr} {es : List Expr} {fs : G (List D)} {k : Nat} {f : Addr} {fd : FuncData} {ps : List Str} {m : List D → Sto → Out D}
theorem de_call (F : FnD X.prog X.w X.K X.mg X.base k f fd ps m) (tk : Takes X W) (hr : Room k X.A) (hg : Gl X x) (hm : X.mg x = some (.ref f)) (hk : PySem.W.keepIn X.K (.ref f) = true) (hb : Binds X.K fd ps []) (hl : (e :: es).length = ps.length)
    (ha : DA X W (e :: es) fs) (hdb : (x == ("__debug__" : Str)) = false := by decide) (he : starEach (e :: es) X.env = (false, eval e X.env) :: starEach es X.env := by rfl) (hpl : (backTo pos (starEach es X.env)).any (·.1) = false := by rfl) (hfl : ∀ ρ st ds s1, fs ρ st = .ok ds s1 → ds.length = (e :: es).length) :
    DE X W (.Call (.Name x p) (e :: es) [] pos) (gCall m fs) := by
  refine PEmono (pe_callS (E := fun σ => WE W σ) F hr hg hm hk hb (fun σ => passAt tk σ) ha hdb he hpl) fun σ H Q h => ?_
  obtain ⟨β, ρ, st, hρ, hs, h⟩ := h
  have h := Out.sat_bind h
  cases q : fs ρ st with
  | bad => rw [q] at h; exact h.elim
  | exn x s => exact ⟨β, ρ, st, hρ, hs, by rw [q] at h ⊢; exact h⟩
  | ok ds s1 =>
    refine ⟨β, ρ, st, hρ, hs, ?_⟩
    rw [q] at h ⊢
    refine fun vs β1 H1 e1 S1 r1 => ⟨β1, ds, s1, r1, S1, by rw [r1.length, hfl _ _ _ _ q, hl], Out.sat.mono h (fun _ _ z => z.ext e1) fun _ _ z => z.ext e1⟩
end
end DL

set_option Elab.async false
set_option linter.all false
set_option maxRecDepth 100000
set_option maxHeartbeats 2000000
namespace DL
open PySem PySem.Spec L2
open PyProof.Rows hiding St
theorem hu65 {k : Nat} {A : Around} (r : Room k A) : A.units + 65 < cLine := by have := r.un; omega
theorem hu64 {k : Nat} {A : Around} (r : Room k A) : A.units + 64 < cLine := by have := r.un; omega
theorem hu1 {k : Nat} {A : Around} (r : Room k A) : A.units + 1 < cLine := by have := r.un; omega
abbrev AL (g : G (List D)) (n : Nat) : Prop := ∀ ρ st ds s1, g ρ st = .ok ds s1 → ds.length = n
theorem al_nil : AL aNil 0 := fun ρ st ds s1 h => by
  cases h
  rfl
theorem al_cons {f : G D} {g : G (List D)} {n : Nat} (h : AL g n) : AL (aCons f g) (n + 1) := fun ρ st ds s1 e => by
  unfold aCons at e
  cases q : f ρ st with
  | bad => rw [q] at e; cases e
  | exn x s => rw [q] at e; cases e
  | ok d s =>
    rw [q] at e
    simp only [Out.bind_ok] at e
    cases q2 : g ρ s with
    | bad => rw [q2] at e; cases e
    | exn x s => rw [q2] at e; cases e
    | ok ds' s' =>
      rw [q2] at e
      simp only [Out.bind_ok, Out.ok.injEq] at e
      rw [← e.1, List.length_cons, h _ _ _ _ q2]
section
variable {X : Cx} {W : WX}
/-- name = [..] on one line, the name a local -/
theorem ds_setLc (i : Nat) {y : Str} {py : Pos} {elt tg iter : Expr} {ifs : List Expr} {scope : Scope} {own : List (Str × Nat)} {pos spos : Pos} {fi : G (List D)} {p : Pat} {t : G Bool} {e : G D} (hc : X.calm = true) (hN : X.N.Nodup) (hy : X.N[i]? = some y) (hyl : X.env.scope.names.lookup y = some .local)
    (hsw : swapsWith (.ListComp elt [⟨tg, iter, ifs, 0⟩] scope pos) (some (.Name y py)) spos.line X.env = pure true) (hi : DI X W tg iter fi) (ok : BlkOk X.N X.env.scope scope own) (hsl : ∀ i ∈ p.slots, i ∈ own.map (·.2))
    (hg : ∀ (s : Shared) (H : Hp) (C : Addr) (cl : List (Str × Addr)) (fp : List Addr), DG (X.blk s H scope (compEnvC scope cl C X.env) fp) tg p) (ht : ∀ (s : Shared) (H : Hp) (C : Addr) (cl : List (Str × Addr)) (fp : List Addr), DTs (X.blk s H scope (compEnvC scope cl C X.env) fp) WF ifs t)
    (he : ∀ (s : Shared) (H : Hp) (C : Addr) (cl : List (Str × Addr)) (fp : List Addr), DE (X.blk s H scope (compEnvC scope cl C X.env) fp) WF elt e) (hs : ∀ x, foldedSetIterable iter X.env x = pure x := by intro _; rfl) :
    DS X W (.Assign [.Name y py] (.ListComp elt [⟨tg, iter, ifs, 0⟩] scope pos) spos) (sSet i (gComp (own.map (·.2)) fi p t e)) := by
  refine PSmono (ps_setLc (g := p.tg X.K) (tt := tDT X.K X.mg WF t) (te := tD X.K X.mg WF e) hc hN hy hyl hsw hi ok hg ht he hs) fun D' σ H h => ?_
  show tLc _ _ _ _ _ σ H _
  refine tLc_of (W := W) hsl ?_
  obtain ⟨β, ρ, st, hρ, hs, h⟩ := h
  exact tD_intro hρ hs (Out.sat_bind h) (fun d s1 h1 v β1 H1 e1 S1 r1 => h1 _ β1 H1 e1 S1 ((hρ.ext e1).set i r1)) fun _ _ q => xs_x q
theorem ds_setLcM (i : Nat) {y : Str} {py : Pos} {elt tg iter : Expr} {ifs : List Expr} {scope : Scope} {own : List (Str × Nat)} {pos spos : Pos} {fi : G (List D)} {p : Pat} {t : G Bool} {e : G D} (hc : X.calm = true) (hN : X.N.Nodup) (hy : X.N[i]? = some y) (hyl : X.env.scope.names.lookup y = some .local)
    (hsw : swapsWith (.ListComp elt [⟨tg, iter, ifs, 0⟩] scope pos) (some (.Name y py)) spos.line X.env = pure true) (hi : DI X W tg iter fi) (ok : BlkOk X.N X.env.scope scope own) (hsl : ∀ i ∈ p.slots, i ∈ own.map (·.2))
    (hg : ∀ (s : Shared) (H : Hp) (C : Addr) (cl : List (Str × Addr)) (fp : List Addr), DG (X.blk s H scope (compEnvC scope cl C X.env) fp) tg p) (ht : ∀ (s : Shared) (H : Hp) (C : Addr) (cl : List (Str × Addr)) (fp : List Addr), DTs (X.blk s H scope (compEnvC scope cl C X.env) fp) WF ifs t)
    (he : ∀ (s : Shared) (H : Hp) (C : Addr) (cl : List (Str × Addr)) (fp : List Addr), DE (X.blk s H scope (compEnvC scope cl C X.env) fp) WF elt e) (hs : ∀ x, foldedSetIterable iter X.env x = pure x := by intro _; rfl) :
    DS X W (.Assign [.Name y py] (.ListComp elt [⟨tg, iter, ifs, 0⟩] scope pos) spos) (sSet i (gCompM (own.map (·.2)) fi p t e)) := by
  refine PSmono (ps_setLc (g := p.tg X.K) (tt := tDT X.K X.mg WF t) (te := tD X.K X.mg WF e) hc hN hy hyl hsw hi ok hg ht he hs) fun D' σ H h => ?_
  show tLc _ _ _ _ _ σ H _
  refine tLc_ofM (W := W) hsl ?_
  obtain ⟨β, ρ, st, hρ, hs, h⟩ := h
  exact tD_intro hρ hs (Out.sat_bind h) (fun d s1 h1 v β1 H1 e1 S1 r1 => h1 _ β1 H1 e1 S1 ((hρ.ext e1).set i r1)) fun _ _ q => xs_x q

/-! ### a written dict with text keys: d.get(k), d[k] -/
/-- what the dict at d holds -/
def KTab (K : PySem.W.Frag) (d : Addr) (tab : List (Str × D)) : Prop := ∀ z : Str, ∃ r, PySem.W.nsIn K d z = some r ∧ match tab.lookup z with
  | some x => ∃ u v, r = some u ∧ RelV v u ∧ ∀ β H, Rep K β H v x
  | none => r = none
def gKGet (tab : List (Str × D)) (f : G D) : G D := fun ρ st => (f ρ st).bind fun k s1 => match k with
  | .str z => .ok ((tab.lookup z).getD .non) s1
  | _ => .bad
def gKIx (tab : List (Str × D)) (f : G D) : G D := fun ρ st => (f ρ st).bind fun k s1 => match k with
  | .str z => oout (tab.lookup z) s1
  | _ => .bad
theorem de_kget {d : Addr} {es : Array DictEntry} {n : Nat} {tab : List (Str × D)} {o e : Expr} {apos cpos : Pos} {f : G D} (D' : KDict X.K X.w d es n) (T : KTab X.K d tab) (ho : PE X o (tC (.ref d))) (he : DE X W e f) (m : M1 X o "get" apos e cpos) :
    DE X W (.Call (.Attribute o "get" apos) [e] [] cpos) (gKGet tab f) := by
  refine ⟨fun pins s σ H Q I h => ?_⟩
  obtain ⟨β, ρ, st, hρ, hs, h⟩ := h
  have he' : tD X.K X.mg W f σ H (fun y H1 => ∃ z r v, y = .str z ∧ PySem.W.nsIn X.K d z = some r ∧ RelV v (r.getD .none) ∧ Q v H1) := by
    refine tD_intro hρ hs (Out.sat_bind h) (fun k s1 h1 v β1 H1 e1 S1 r1 => ?_) fun _ _ q => q
    cases k with
    | str z =>
      cases r1
      obtain ⟨r, hr, t⟩ := T z
      have h1 : PostV X.K Q β H ((tab.lookup z).getD .non) s1 := h1
      cases q : tab.lookup z with
      | none =>
        rw [q] at t h1
        exact ⟨z, r, .non, rfl, hr, by rw [show r = none from t]; rfl, h1 .non β1 H1 e1 S1 .non⟩
      | some x =>
        rw [q] at t h1
        obtain ⟨u, v, e2, rv, rp⟩ := t
        exact ⟨z, r, v, rfl, hr, by rw [e2]; exact rv, h1 v β1 H1 e1 S1 (rp β1 H1)⟩
    | _ => exact h1.elim
  refine wpAny_Call_method m.base m.few m.line PySem.F.plainAttrs_dict PySem.F.slot_dict_get PySem.F.type_dict_get (thn (ho.run pins s σ H (fun x H1 => x = .ref d ∧ H1 = H) I ⟨rfl, rfl⟩) fun u s1 ⟨x, H1, I1, rx, ex, eH⟩ => ?_)
  subst ex eH
  obtain rfl : u = Value.ref d := rx
  refine ⟨kd_type D' I1, fun b q => ?_, ?_⟩
  · cases q
    exact ⟨_, I1.kIn _ _ D'.at_, rfl⟩
  · rw [m.trees]
    refine Calls.callWith_builtin rfl (Calls.evalArgs_plain (Calls.spliced_cons (thn (he.run pins s1 σ H1 _ I1 he') fun iv s2 ⟨y, H2, I2, ry, z, r, v, ey, hr, rv, q⟩ => Calls.spliced_nil ?_)))
    subst ey
    obtain ⟨t, rfl⟩ := ry
    refine call_meetsIn PySem.F.slot_dict_get (kd_type D' I2) PySem.F.entry_dict_get (PySem.F.args_dict_get_2 _ _) (meets_dict_get (strKind X.prog X.w) d (PySem.strKind_is X.prog X.w z t) D'.low) ⟨_, PySem.W.mapOf_K (prog := X.prog) I2.kIn D'.at_ D'.lit, ?_⟩
    rw [PySem.W.find_K D'.at_ hr]
    exact ⟨v, H2, I2.tok _, rv, q⟩
theorem pe_K {x : Str} {d : Addr} {pos : Pos} (hg : Gl X x) (hm : X.mg x = some (.ref d)) (hd : (x == ("__debug__" : Str)) = false := by decide) : PE X (.Name x pos) (tC (.ref d)) := pe_glob hg hm rfl hd
end
end DL

set_option Elab.async false
set_option linter.all false
set_option maxRecDepth 100000
set_option maxHeartbeats 2000000
namespace DL
open PySem PySem.Spec L2
open PyProof.Rows hiding St
theorem takesF {X : Cx} : Takes X WF := takes0
def mNeg : D → Sto → Option D
  | .int i, _ => some (.int (-i))
  | _, _ => none
section
variable {K : PySem.W.Frag}
theorem ud_neg : UnD K (rU fun i => .int (-i)) mNeg := by
  intro β H st x dx d Q rx S e q
  cases dx <;> simp only [mNeg, Option.some.injEq, reduceCtorEq] at e
  cases rx; subst e
  exact ⟨_, rfl, q _ _ (Same.refl H) (.int _)⟩
end
section
variable {X : Cx} {W : WX} {pos : Pos} {f g : G D} {e o : Expr}
/-- {} -/
def gDctM : G D := fun _ st => .ok (.ref st.length) (st ++ [.dK []])
theorem de_dnew : DE X W (.Dict [] [] pos) gDctM := by
  refine PEmono pe_dnewK fun σ H Q h => ?_
  obtain ⟨β, ρ, st, hρ, hs, h⟩ := h
  intro p hp
  refine h (.ref p) (β.add p) _ (Ext.grow hp) (hs.grow hp ⟨[], upd_same, rfl, rfl, .nil⟩) (.ref ?_)
  rw [← hs.len]
  simp [Bx.add]
/-! ### isinstance(x, (c1, c2)) -/
def rIsiS (K : PySem.W.Frag) : List V → Hp → VK → Prop := fun xs H Q => ∃ (x : V) (tp : Addr) (cs : List V) (t : Value) (us : List Value) (b : Bool), xs = [x, .ref tp] ∧ SqT K H tp cs ∧ Paired ClsV cs us ∧ TyX K H x t ∧ PySem.W.kitAny K t us = some b ∧ Q (.bl b) H
theorem call_isiS : CallR X (.builtin "isinstance") (rIsiS X.K) := by
  intro pins s σ H xs us Q I r h
  obtain ⟨x, tp, cs, t, ws, b, rfl, hT, k, ty, e, q⟩ := h
  obtain ⟨u1, u2, rfl, r1, r2⟩ := vals2 r
  cases (show u2 = Value.ref tp from r2)
  obtain ⟨P, Z, p, hx⟩ := kit_of I r1 ty
  obtain ⟨its, rv, ⟨o, h1, h2, n, h3⟩, _⟩ := I.tuple hT
  have e3 := ClsV.all k rv
  subst e3
  obtain ⟨oc, od, dt, sl⟩ := o
  simp only at h2 h3
  subst h2 h3
  exact PySem.W.kia_tup Z I.kIn p h1 e hx fun tk => ⟨.bl b, H, I.tok tk, rfl, q⟩
def isiAny (a : String) : List D → Option Bool
  | [] => some false
  | .raw (.ty b) :: r => match isiB a b, isiAny a r with
    | some x, some y => some (x || y)
    | _, _ => none
  | _ => none
def mIsiT : List D → Sto → Option D
  | [d, .tup cs], st => match tyD d st with
    | some a => (isiAny a cs).map D.bl
    | none => none
  | _, _ => none
theorem isiAny_kit {K : PySem.W.Frag} {β : Bx} {H : Hp} {a : String} : ∀ {cs : List D} {xs : List V} {b : Bool}, Reps K β H xs cs → isiAny a cs = some b → ∃ us, Paired ClsV xs us ∧ PySem.W.kitAny K (.type a) us = some b
  | [], _, b, r, e => by
    cases r
    cases e
    exact ⟨[], .nil, kitAny_nil⟩
  | .raw (.ty c) :: cs, _, b, r, e => by
    cases r with
    | cons r1 r2 =>
      simp only [isiAny] at e
      split at e
      · rename_i x y hx hy
        cases e
        obtain ⟨us, h1, h2⟩ := isiAny_kit r2 hy
        cases r1
        refine ⟨_, .cons (.ty c) h1, kitAny_cons (kit_ty (isiB_kit hx)) (fun z => ?_) fun z => ?_⟩
        · rw [z]; exact h2
        · rw [z]; rfl
      · cases e
theorem cd_isiT {K : PySem.W.Frag} : CallD K (rIsiS K) mIsiT := by
  intro β H st xs ds d Q r S e q
  match ds, r, e with
  | [x, .tup cs], r, e =>
    obtain ⟨v, w, rfl, r1, r2⟩ := r.two
    simp only [mIsiT] at e
    split at e
    · rename_i a ha
      rw [Option.map_eq_some_iff] at e
      obtain ⟨k, hk, e⟩ := e
      subst e
      cases r2 with
      | tup h1 h2 h3 =>
        obtain ⟨us, p, z⟩ := isiAny_kit h2 hk
        exact ⟨v, _, _, _, us, k, rfl, h1, p, tyD_x r1 S ha, z, q _ _ (Same.refl H) (.bl _)⟩
    · cases e

/-! ### writing: xs[i] = v, d[k] = v -/
def setSto (st : Sto) (n : Nat) (o : SO) : Sto := st.set n o
/-- o[i] = v -/
def mPut (o i v : D) (st : Sto) : Option Sto := match o, i with
  | .ref n, .int k => match st[n]? with
    | some (.lst l) => (ixN l.length k).map fun j => st.set n (.lst (l.set j v))
    | _ => none
  | _, _ => none
def sPut (fo fi fv : G D) : G Fl := fun ρ st => (fv ρ st).bind fun v s1 => (fo ρ s1).bind fun o s2 => (fi ρ s2).bind fun i s3 => match mPut o i v s3 with
  | some s4 => .ok (.nx ρ) s4
  | none => .bad
theorem Ext.write {β : Bx} {H : Hp} {a : Addr} {n : Nat} {o u : HO} (hm : β.lo[n]? = some a) (ha : H a = some u) (nt : ∀ xs, u ≠ .tup xs) (nf : ∀ ob w, u ≠ .frz ob w) (nc : ∀ c q, u ≠ LamX.CodeO c q := by intro _ _ z; cases z) (no : ∀ ps, o ≠ .tbl ps := by intro _ z; cases z) : Ext β H β (upd H a o) := by
  have ne : ∀ b w, H b = some w → w ≠ u → b ≠ a := fun b w q n z => by
    rw [z, ha] at q
    exact n (Option.some.inj q).symm
  refine ⟨⟨[], by simp, by simp⟩, rfl, fun b w hb hw hn => ?_, fun b xs q => ?_, fun b ob w q => ?_, fun b w q n => ?_, fun c q' z => ?_⟩
  · rw [upd_ne fun z => hb (by rw [z]; exact List.mem_iff_getElem?.mpr ⟨n, hm⟩)]
    exact hw
  · rw [upd_ne (ne b _ q fun z => nt xs z.symm)]
    exact q
  · rw [upd_ne (ne b _ q fun z => nf ob w z.symm)]
    exact q
  · by_cases hb : b = a
    · exact ⟨o, by rw [hb, upd_same], no⟩
    · exact ⟨w, by rw [upd_ne hb]; exact q, n⟩
  · rw [upd_ne (ne c _ z fun y => nc c q' y.symm)]
    exact z
theorem StoOk.write {K : PySem.W.Frag} {β : Bx} {H : Hp} {st : Sto} {a : Addr} {n : Nat} {o : HO} {so : SO} (S : StoOk K β H st) (hm : β.lo[n]? = Option.some a) (e : Ext β H β (upd H a o)) (r : SORel K β (upd H a o) a so) : StoOk K β (upd H a o) (st.set n so) := by
  refine ⟨by rw [List.length_set]; exact S.len, S.nd, fun m b u h1 h2 => ?_, fun p hp => ?_⟩
  · by_cases hn : n = m
    · subst hn
      rw [hm] at h1
      cases h1
      rw [List.getElem?_set_self (by rw [← S.len]; exact (List.getElem?_eq_some_iff.mp hm).1)] at h2
      cases h2
      exact r
    · rw [List.getElem?_set_ne hn] at h2
      refine (S.obj m b u h1 h2).move e.mv fun w q => ?_
      rw [upd_ne fun z => hn ?_]
      · exact q
      · subst z
        obtain ⟨q1, e1⟩ := List.getElem?_eq_some_iff.mp hm
        obtain ⟨q2, e2⟩ := List.getElem?_eq_some_iff.mp h1
        exact (List.getElem_inj S.nd).mp (e1.trans e2.symm)
  · obtain ⟨w, hw, nw⟩ := S.priv p hp
    exact e.dom p w hw nw
theorem ds_put {i v : Expr} {fo fi fv : G D} {tpos : Pos} (ho : DE X W o fo) (hi : DE X W i fi) (hv : DE X W v fv) (ha : ∀ u, assign (.Subscript o i tpos) X.env u = (do
      let ov ← holding [u] (eval o X.env)
      let iv ← holding [u, ov] (eval i X.env)
      standAt tpos
      holding [u, ov, iv] (setItem ov iv u)
      release [u, ov, iv] []) := by intro _; rfl) (hs : swapsWithSole [.Subscript o i tpos] v pos.line X.env = pure false := by rfl) (hw : swappedStores [.Subscript o i tpos] v X.env = pure none := by rfl)
    (h1 : (assignEach [.Subscript o i tpos] X.env).map (·.2) = [assign (.Subscript o i tpos) X.env] := by rfl) : DS X W (.Assign [.Subscript o i tpos] v pos) (sPut fo fi fv) := by
  refine PSmono (ps_asg hv (pg_sub ho hi set_list ha) hs hw h1) fun D' σ H h => ?_
  obtain ⟨β, ρ, st, hρ, hs, h⟩ := h
  refine tD_intro hρ hs (Out.sat_bind h) (fun dv s1 h1 v β1 H1 e1 S1 r1 => ?_) fun _ _ q => xs_x q
  refine tD_intro (hρ.ext e1) S1 (Out.sat_bind h1) (fun d_o s2 h2 vo β2 H2 e2 S2 r2 => ?_) fun _ _ q => (xs_x q).ext e1
  refine tD_intro ((hρ.ext e1).ext e2) S2 (Out.sat_bind h2) (fun di s3 h3 vi β3 H3 e3 S3 r3 => ?_) fun _ _ q => ((xs_x q).ext e1).ext e2
  unfold mPut at h3
  split at h3
  · rename_i s4 hp
    split at hp
    · rename_i n k
      have r2' := Rep.ext e3 _ _ r2
      cases r3
      cases r2' with
      | ref hm =>
        obtain ⟨so, hso, rel⟩ := S3.get hm
        rw [hso] at hp
        cases so with
        | lst l =>
          obtain ⟨xs, hH, rxs⟩ := rel
          simp only [Option.map_eq_some_iff] at hp
          obtain ⟨j, hj, hp⟩ := hp
          subst hp
          refine ⟨_, xs, k, j, rfl, rfl, hH, by rw [rxs.length]; exact hj, ?_⟩
          have ew := Ext.write (o := .lst (xs.set j v)) hm hH (fun _ z => by cases z) fun _ _ z => by cases z
          have rv := Rep.ext ew _ _ (Rep.ext (e2.trans e3) _ _ r1)
          exact h3 σ β3 _ (((e1.trans e2).trans e3).trans ew) (S3.write hm ew ⟨_, upd_same, (Reps.ext ew _ _ rxs).set rv j⟩) ((((hρ.ext e1).ext e2).ext e3).ext ew)
        | dK l => cases hp
        | tab q => cases hp
    · cases hp
  · exact h3.elim
/-! ### appending -/
def mLstAt (o : D) (st : Sto) : Option (Nat × List D) := match o with
  | .ref n => match st[n]? with
    | some (.lst l) => some (n, l)
    | _ => none
  | _ => none
theorem mLstAt_ok {K : PySem.W.Frag} {β : Bx} {H : Hp} {st : Sto} {o : D} {v : V} {n : Nat} {l : List D} (h : mLstAt o st = some (n, l)) (r : Rep K β H v o) (S : StoOk K β H st) : o = .ref n ∧ ∃ a xs, v = .ref a ∧ β.lo[n]? = some a ∧ H a = some (.lst xs) ∧ Reps K β H xs l := by
  unfold mLstAt at h
  split at h
  · rename_i m
    split at h
    · rename_i l' hl
      cases h
      cases r with
      | ref hm =>
        obtain ⟨so, hso, rel⟩ := S.get hm
        rw [hl] at hso
        cases hso
        obtain ⟨xs, hH, rx⟩ := rel
        exact ⟨rfl, _, xs, rfl, hm, hH, rx⟩
    · cases h
  · cases h
def gAppend (fo fv : G D) : G D := fun ρ st => (fo ρ st).bind fun o s1 => match mLstAt o s1 with
  | none => .bad
  | some _ => (fv ρ s1).bind fun v s2 => match mLstAt o s2 with
    | some (n, l) => if l.length < LIM then .ok .non (s2.set n (.lst (l ++ [v]))) else .bad
    | none => .bad
theorem de_append {o e : Expr} {fo fv : G D} {apos cpos : Pos} (ho : DE X W o fo) (he : DE X W e fv)
    (hbase : attributeBase o "append" X.env (eval o X.env) = eval o X.env := by rfl)
    (hfew : ((backTo cpos (starEach (e :: []) X.env)).all (fun x => !x.1) && (backToKw cpos (keywordEach [] X.env)).all (fun x => x.1.isSome)
      && decide ((e :: ([] : List Expr)).length + ([] : List Keyword).length + (if ([] : List Keyword).isEmpty then 0 else 1) < 30)) = true := by rfl)
    (hline : (apos.endLine == cpos.line) = true := by rfl) (hs : starEach (e :: []) X.env = (false, eval e X.env) :: starEach [] X.env := by rfl) (hplain : (backTo cpos (starEach [] X.env)).any (·.1) = false := by rfl) :
    DE X W (.Call (.Attribute o "append" apos) [e] [] cpos) (gAppend fo fv) := by
  refine PEmono (pe_bm PySem.F.plainAttrs_list PySem.F.slot_list_append PySem.F.type_list_append mt_append ho (pa_cons he pa_nil hs) hbase hfew hline hs hplain) fun σ H Q h => ?_
  obtain ⟨β, ρ, st, hρ, hs, h⟩ := h
  refine tD_intro hρ hs (Out.sat_bind h) (fun d_o s1 h1 vo β1 H1 e1 S1 r1 => ?_) fun _ _ q => q
  split at h1
  · exact h1.elim
  · rename_i z hz
    obtain ⟨n, l1⟩ := z
    obtain ⟨rfl, a, xs1, rfl, hm, hH1, rx1⟩ := mLstAt_ok hz r1 S1
    refine ⟨.inl ⟨rfl, _, .inl (.inl hH1)⟩, ?_⟩
    refine tD_intro (hρ.ext e1) S1 (Out.sat_bind h1) (fun dv s2 h2 v β2 H2 e2 S2 r2 => ?_) fun _ _ q => q.ext e1
    split at h2
    · rename_i n' l hz2
      obtain ⟨e3, a', xs, e4, hm2, hH, rx⟩ := mLstAt_ok hz2 (Rep.ref (e2.mem hm)) S2
      cases e3
      cases e4
      split at h2
      · rename_i hlt
        have hl := rx.length
        refine ⟨_, xs, v, rfl, rfl, hH, by rw [hl, sizeLine_eq]; exact Nat.lt_trans hlt (by decide), ?_⟩
        have ew := Ext.write (o := .lst (xs ++ [v])) hm2 hH (fun _ z => by cases z) fun _ _ z => by cases z
        exact h2 .non β2 _ ((e1.trans e2).trans ew) (S2.write hm2 ew ⟨_, upd_same, (Reps.ext ew _ _ rx).append (.cons (Rep.ext ew _ _ r2) .nil)⟩) .non
      · exact h2.elim
    · exact h2.elim
end
end DL

set_option Elab.async false
set_option linter.all false
set_option maxRecDepth 100000
set_option maxHeartbeats 2000000
/-! # sorted(set(texts)): a set of texts, its members in order -/
namespace DL
open PySem PySem.Spec L2
open PyProof.Rows hiding St

def keyS (e : Int × Value) : Str := match e.2 with
  | .str x _ => x
  | _ => Str.empty
def isTxt (P : Program) (w : World) (e : Int × Value) : Prop := ∃ x tk, e.2 = Value.str x tk ∧ e.1 = (strKind P w).hash x
/-- the set at a: its members S, n of them; it may be walked -/
structure TxtSet (P : Program) (w : World) (h : Heap) (a : Addr) (S : Str → Bool) (n : Nat) : Prop where
  all : ∃ o es ep t, h.get? a = some o ∧ o.ExactSet ∧ o.data = .set es ep t ∧ (∀ e ∈ es.toList, isTxt P w e) ∧ (es.toList.map keyS).Nodup ∧ (∀ x, S x = true ↔ x ∈ es.toList.map keyS) ∧
    es.size < scanBound ∧ t.fits es.size = true ∧ es.size = n ∧ Ris t.place.toList ∧ (w.params.followText "set-order" = true ∨ t.led = true)
section
variable {P : Program} {w : World} {h h' : Heap} {a : Addr} {S : Str → Bool} {n : Nat}
theorem TxtSet.stay (R : TxtSet P w h a S n) (k : ∀ o, h.get? a = some o → h'.get? a = some o) : TxtSet P w h' a S n := by
  obtain ⟨o, es, ep, t, q, r⟩ := R.all
  exact ⟨⟨o, es, ep, t, k o q, r⟩⟩
theorem TxtSet.cg {S' : Str → Bool} {n' : Nat} (R : TxtSet P w h a S n) (e : ∀ x, S' x = S x) (en : n' = n) : TxtSet P w h a S' n' := by
  have : S' = S := funext e
  subst this en
  exact R
theorem txt_elems {l : List (Int × Value)} (g : ∀ e ∈ l, isTxt P w e) : ElemsOf (strKind P w) l := fun e he => by
  obtain ⟨x, tk, e1, e2⟩ := g e he
  rw [e1]
  exact ⟨⟨x, strKind_is P w x tk, e2⟩, rfl⟩
theorem txt_is {e : Int × Value} (g : isTxt P w e) (x : Str) : (strKind P w).is x e.2 = true ↔ keyS e = x := by
  obtain ⟨y, tk, e1, _⟩ := g
  have hy := strKind_is P w y tk
  constructor
  · intro z
    rw [e1] at z
    unfold keyS
    rw [e1]
    exact (strKind P w).inj _ _ _ hy z
  · intro z
    unfold keyS at z
    rw [e1] at z ⊢
    have z : y = x := z
    subst z
    exact hy
theorem txt_mem {l : List (Int × Value)} (g : ∀ e ∈ l, isTxt P w e) (x : Str) : x ∈ l.map keyS ↔ ∃ e ∈ l, (strKind P w).is x e.2 = true := by
  rw [List.mem_map]
  constructor
  · rintro ⟨e, he, q⟩
    exact ⟨e, he, (txt_is (g e he) x).mpr q⟩
  · rintro ⟨e, he, q⟩
    exact ⟨e, he, (txt_is (g e he) x).mp q⟩
theorem TxtSet.setOf (R : TxtSet P w h a S n) : h.SetOf (strKind P w) a S n := by
  obtain ⟨o, es, ep, t, ho, hx, hd, g, nd, hm, hb, hf, hn, _⟩ := R.all
  exact ⟨o, es, ep, t, ho, hx, hd, txt_elems g, fun k => (hm k).trans (txt_mem g k), hb, hf, hn⟩
end
section
variable {P : Program} {w : World} {A : Around} {E : Value → Shared → Prop} {s : Shared} {a : Addr} {S : Str → Bool} {n : Nat}
theorem txt_tail {g : Bool → Sem Unit} (hg : ∀ (b : Bool) (s₁ : Shared) (Q' : Unit → Shared → Prop), Q' () s₁ → wpAny (model P w) A (g b) Q' E s₁) {o : Obj} {es : Array (Int × Value)} {ep : Nat} {t : SetTable} (ho : s.heap.get? a = some o) (hex : o.ExactSet) (hd : o.data = .set es ep t)
    {e1 : Array (Int × Value)} {t2 : SetTable} {S' : Str → Bool} (g1 : ∀ e ∈ e1.toList, isTxt P w e) (nd : (e1.toList.map keyS).Nodup) (m1 : ∀ k, S' k = true ↔ k ∈ e1.toList.map keyS) (hb : e1.size < scanBound) (hf : t2.fits e1.size = true) (hr : Ris t2.place.toList) (hl : w.params.followText "set-order" = true ∨ t2.led = true)
    {was : Bool} {R : Option Bool → Shared → Prop} (hR : ∀ h', Heap.SameBut a s.heap h' → TxtSet P w h' a S' e1.size → R (some true) { s with heap := h' }) :
    wpAny (model P w) A (do storeSet a e1 t2; if (!was && t2.tooFull) = true then do { g (relayAll t2 e1 (SetTable.grown e1.size)).2.2; storeSet a (relayAll t2 e1 (SetTable.grown e1.size)).1 (relayAll t2 e1 (SetTable.grown e1.size)).2.1; pure (some true) } else pure (some true)) R E s := by
  refine wpAny_bind (wpAny_storeSet_of ho hd ?_ (fits_of_scanBound hb))
  have q1 := store_at (es' := e1) (t' := t2) ho hd
  have sb := Heap.SameBut.update s.heap a (Obj.putSet e1 t2)
  by_cases hc : (!was && t2.tooFull) = true
  · rw [if_pos hc]
    have pm := relayAll_perm t2 e1 (SetTable.grown e1.size)
    have f3 := relayAll_fits t2 e1 (SetTable.grown e1.size)
    have r3 := relayAll_ris t2 e1 (SetTable.grown e1.size)
    have l3 := relayAll_led t2 e1 (SetTable.grown e1.size)
    revert pm f3 r3 l3
    generalize relayAll t2 e1 (SetTable.grown e1.size) = Z
    obtain ⟨e2, t3, gave⟩ := Z
    intro pm f3 r3 l3
    dsimp only at pm f3 r3 l3 ⊢
    have hz : e2.size = e1.size := by
      have := pm.length_eq
      rwa [Array.length_toList, Array.length_toList] at this
    refine wpAny_bind (hg _ _ _ (wpAny_bind (wpAny_storeSet_of q1 rfl (wpAny_pure (hR _ (sb.trans (Heap.SameBut.update _ a _)) ?_)) (fits_of_scanBound (by rw [hz]; exact hb)))))
    exact ⟨⟨_, e2, _, t3, store_at q1 rfl, hex, rfl, fun e he => g1 e (pm.mem_iff.mp he), (pm.map keyS).nodup_iff.mpr nd, fun k => (m1 k).trans (pm.map keyS).mem_iff.symm, by rw [hz]; exact hb, f3, hz, r3, hl.imp id fun z => by rw [l3]; exact z⟩⟩
  · rw [if_neg hc]
    exact wpAny_pure (hR _ sb ⟨⟨_, e1, _, t2, q1, hex, rfl, g1, nd, m1, hb, hf, rfl, hr, hl⟩⟩)
theorem txt_put {x : Str} {tk : Tok} {Q : Bool → Shared → Prop} (R : TxtSet P w s.heap a S n) (room : n + 1 < scanBound)
    (hQ : ∀ h', Heap.SameBut a s.heap h' → TxtSet P w h' a (fun j => S j || decide (j = x)) (if S x = true then n else n + 1) → Q (!S x) { s with heap := h' }) : wpAny (model P w) A (setAddHashed a (.str x tk) ((strKind P w).hash x)) Q E s := by
  obtain ⟨o, es, ep, t, ho, hex, hd, g, nd, hm, hb, hf, hn, hr, hl⟩ := R.all
  have hk := strKind_is P w x tk
  have hsc : (Value.str x tk).scannable = true := rfl
  have hel := txt_elems g
  unfold setAddHashed setAddHashedIn
  refine wpAny_holding (wpAny_bind (wpAny_setState_of ho hd hf ?_))
  dsimp only
  rw [byScan_of hsc hb hel]
  simp only [↓reduceIte]
  unfold setAddByScan
  refine wpAny_bind (wpAny_bind (wpAny_rule (wpAny_bind (wpAny_setScan_of hk ho hd hf hel ?_))))
  cases hfi : List.findIdx? (fun e => (strKind P w).is x e.2) es.toList with
  | some j =>
    obtain ⟨hj, pj, _⟩ := List.findIdx?_eq_some_iff_getElem.mp hfi
    have hS : S x = true := (hm x).2 ((txt_mem g x).2 ⟨es.toList[j], List.getElem_mem hj, pj⟩)
    have q := hQ s.heap (Heap.SameBut.refl a s.heap) (R.cg (fun i => by
      by_cases e : i = x
      · subst e; simp [hS]
      · simp [e]) (by rw [if_pos hS]))
    rw [hS] at q
    exact wpAny_pure (wpAny_pure q)
  | none =>
    have no : x ∉ es.toList.map keyS := fun z => by
      obtain ⟨e, he, q⟩ := (txt_mem g x).1 z
      have c := List.findIdx?_eq_none_iff.mp hfi e he
      rw [q] at c
      cases c
    have hS : S x = false := by
      cases q : S x with
      | false => rfl
      | true => exact absurd ((hm x).1 q) no
    have gw : ∀ (b : Bool) {s₁ : Shared} {Q' : Unit → Shared → Prop}, Q' () s₁ → wpAny (model P w) A (match b with | true => rule "set.scan.the-table-gave-way" | false => pure ()) Q' E s₁ := fun b s₁ Q' q => by
      cases b
      · exact wpAny_pure q
      · exact wpAny_rule q
    dsimp only
    have pm := layNew_perm t es ((strKind P w).hash x) (.str x tk)
    have f1 := layNew_fits t es ((strKind P w).hash x) (.str x tk)
    have r1 := layNew_ris t es ((strKind P w).hash x) (.str x tk) hr
    have l1 := layNew_led t es ((strKind P w).hash x) (.str x tk)
    revert pm f1 r1 l1
    generalize layNew t es ((strKind P w).hash x) (.str x tk) = Z
    obtain ⟨e1, t1, was, gave⟩ := Z
    intro pm f1 r1 l1
    dsimp only at pm f1 r1 l1 ⊢
    rw [Array.toList_push] at pm
    have pc : e1.toList.Perm (((strKind P w).hash x, Value.str x tk) :: es.toList) := pm.trans (List.perm_append_singleton _ _)
    have pk : (e1.toList.map keyS).Perm (x :: es.toList.map keyS) := pc.map keyS
    have g1 : ∀ e ∈ e1.toList, isTxt P w e := fun e he => (List.mem_cons.mp (pc.mem_iff.mp he)).elim (fun z => by rw [z]; exact ⟨x, tk, rfl, rfl⟩) (g e)
    have nd1 : (e1.toList.map keyS).Nodup := pk.nodup_iff.mpr (List.nodup_cons.mpr ⟨no, nd⟩)
    have m1 : ∀ i, (S i || decide (i = x)) = true ↔ i ∈ e1.toList.map keyS := fun i => by
      rw [Bool.or_eq_true, decide_eq_true_eq, hm i, pk.mem_iff, List.mem_cons]
      exact Or.comm
    have hz : e1.size = n + 1 := by
      have := pc.length_eq
      rw [Array.length_toList, List.length_cons, Array.length_toList] at this
      omega
    have hb1 : e1.size < scanBound := by rw [hz]; exact room
    have ld : w.params.followText "set-order" = true ∨ t1.led = true := hl.imp id fun z => by rw [l1]; exact z
    have fin : ∀ h', Heap.SameBut a s.heap h' → TxtSet P w h' a (fun j => S j || decide (j = x)) e1.size → Q true { s with heap := h' } := fun h' sb r => by
      have q := hQ h' sb
      rw [hS] at q
      rw [hz] at r
      exact q r
    refine wpAny_bind (gw _ ?_)
    have gg : ∀ (b : Bool) (s₁ : Shared) (Q' : Unit → Shared → Prop), Q' () s₁ → wpAny (model P w) A (match b with | true => rule "set.scan.the-table-gave-way" | false => pure ()) Q' E s₁ := fun b s₁ Q' q => gw b q
    split
    · refine wpAny_bind ?_
      rw [hashByValue_scannable 8 hsc]
      refine wpAny_pure (txt_tail ?_ ho hex hd g1 nd1 m1 hb1 ?_ ?_ ?_ fun h' sb r => ?_)
      · intro b s₁ Q' q
        cases b
        · first | exact wpAny_pure q | exact wpAny_rule q
        · first | exact wpAny_rule q | exact wpAny_pure q
      · first | exact f1 | (split <;> first | exact f1 | exact SetTable.fits_plain_off f1)
      · first | exact r1 | (split <;> exact r1)
      · first | exact ld | (split <;> exact ld)
      · exact wpAny_pure (fin h' sb r)
    · refine wpAny_bind (wpAny_pure ?_)
      simp only [↓reduceIte]
      refine txt_tail ?_ ho hex hd g1 nd1 m1 hb1 f1 r1 ld fun h' sb r => wpAny_pure (fin h' sb r)
      intro b s₁ Q' q
      cases b
      · first | exact wpAny_pure q | exact wpAny_rule q
      · first | exact wpAny_rule q | exact wpAny_pure q
end
end DL
namespace DL
open PySem PySem.Spec L2
open PyProof.Rows hiding St
theorem strsAre_get : ∀ {us : List Value} {xs : List Str}, StrsAre us xs → ∀ (i : Nat) (v : Value), us[i]? = some v → ∃ x t, xs[i]? = some x ∧ v = .str x t
  | _, _, .nil, i, v, h => by simp at h
  | _, _, .cons x t hr, 0, v, h => ⟨x, t, rfl, (Option.some.inj (by simpa using h)).symm⟩
  | _, _, .cons x t hr, i + 1, v, h => strsAre_get hr i v (by simpa using h)
section
variable {prog : Program} {w : World} {A : Around} {R : Result → Shared → Prop} {I : Addr} {fp wr : List Addr} {G : Array GenState → Array GenState → Prop} {n : Nat} {P : Nat → Value → Prop} {St : Nat → Shared → Prop}
/-- the members that come from a walk of texts -/
theorem txt_loop (W : WalksS prog w A.in1 I fp wr G n P St) (S : Addr) (hSf : S ∉ fp) (xs : List Str) (hz : xs.length = n) (hb : n + 1 < scanBound) (hval : ∀ i v, P i v → ∃ x t, xs[i]? = some x ∧ v = .str x t) :
    ∀ (k i m : Nat) (s : Shared), n - i = k → i ≤ n → m ≤ i → St i s → TxtSet prog w s.heap S (fun x => decide (x ∈ xs.take i)) m →
      (∀ s' m', Moved (S :: wr) G s s' → m' ≤ n → TxtSet prog w s'.heap S (fun x => decide (x ∈ xs)) m' → R (.ok (.ret .none)) s') →
      codeAny (model prog w) A (.builtin "set.update.loop" ⟨[.ref S, .ref I], []⟩) R s := by
  have hSw : S ∉ wr := fun h => hSf (W.sub _ h)
  have sub : ∀ b ∈ wr, b ∈ S :: wr := fun b hb => List.mem_cons_of_mem _ hb
  intro k
  induction k with
  | zero =>
    intro i m s hk hi hm hst hS hR
    have e : i = n := by omega
    subst e
    refine codeAny_builtin PyProof.Rows.F.entry_set_update_loop ?_
    rw [Around.under_plainId PyProof.Rows.F.plain_set_update_loop _]
    show wpAny _ A.in1 (pyNext (.ref I) >>= _) _ _ s
    refine wpAny_bind (W.done s _ _ hst fun s' mv => ?_)
    show wpAny _ A.in1 (ret Value.none) _ _ s'
    refine wpAny_pure (hR s' m (mv.mono sub) hm ((hS.stay fun o => mv.heap S o hSw).cg (fun x => ?_) rfl))
    rw [← hz, List.take_length]
  | succ k ih =>
    intro i m s hk hi hm hst hS hR
    have lt : i < n := by omega
    refine codeAny_builtin PyProof.Rows.F.entry_set_update_loop ?_
    rw [Around.under_plainId PyProof.Rows.F.plain_set_update_loop _]
    show wpAny _ A.in1 (pyNext (.ref I) >>= _) _ _ s
    refine wpAny_bind (W.item i s _ _ lt hst fun v s' hP hst' mv => ?_)
    obtain ⟨x, t, hx, rfl⟩ := hval i v hP
    have S1 := hS.stay fun o => mv.heap S o hSw
    show wpAny _ A.in1 (holding [Value.str x t] (setAdd S (.str x t)) >>= _) _ _ s'
    refine wpAny_bind (wpAny_holding ?_)
    unfold setAdd
    refine wpAny_holding (wpAny_bind ((strKind prog w).pyHash (k := x) (strKind_is _ _ _ _) ?_))
    refine txt_put (s := { s' with toks := s'.toks + 1 }) S1 (by omega) fun h' sb S2 => ?_
    have tk : xs.take (i + 1) = xs.take i ++ [x] := by rw [List.take_add_one, hx]; rfl
    have S3 : TxtSet prog w h' S (fun y => decide (y ∈ xs.take (i + 1))) (if decide (x ∈ xs.take i) = true then m else m + 1) := S2.cg (fun y => by
      rw [tk]
      by_cases h1 : y ∈ xs.take i <;> by_cases h2 : y = x <;> simp [h1, h2]) rfl
    refine wpAny_pure ⟨plainId_quiet PyProof.Rows.F.plain_set_update_loop _, ih (i + 1) _ _ (by omega) lt ?_ (W.frame _ s' _ _ hst' (Nat.le_succ _) fun b hb o e => ?_) S3 fun s'' m' mv2 hm' hS' => ?_⟩
    · split <;> omega
    · rw [sb.2 b (fun z : b = S => hSf (by rw [← z]; exact hb))]
      exact e
    · refine hR s'' m' (Moved.trans W.gtrans ((mv.mono sub).then_heap (Nat.le_succ _) fun b o hb e => ?_) mv2) hm' hS'
      rw [sb.2 b (fun z : b = S => hb (by rw [z]; exact List.mem_cons_self))]
      exact e
end
section
variable {prog : Program} {w : World} {A : Around} {E : Value → Shared → Prop} {s : Shared}
/-- set.__new__ of one argument: the empty set, with its ledger as the settings say -/
theorem txt_new (a : Value) {Q₁ : Value → Shared → Prop}
    (h : Q₁ (.ref s.heap.objs.size) { s with heap := s.heap.push { cls := .type "set", dict := none, data := .set #[] 0 (.fresh 0 0 (!w.params.followText "set-order")) } }) :
    codeAny (model prog w) A (.call (.builtin "set.__new__") ⟨[.type "set", a], []⟩) (wants Q₁ E) s := by
  refine codeAny_of_tree ?_
  show wpAny _ A.in1 (do checkBuiltinCall "set.__new__" ⟨[.type "set", a], []⟩; again (.builtin "set.__new__" ⟨[.type "set", a], []⟩)) _ _ s
  refine wpAny_bind (wpAny_of_eq (show checkBuiltinCall "set.__new__" ⟨[.type "set", a], []⟩ = pure () by kernel_rfl) (wpAny_pure ⟨plainId_quiet PySem.F.plain_set_new _, codeAny_builtin PySem.F.entry_set_new ?_⟩))
  rw [Around.under_plainId PySem.F.plain_set_new _]
  unfold Builtin.«set.__new__» Builtin.Frozenset.newClass
  have hsub : isSubtype (.type "set") (.type "set") = pure true := by rw [isSubtype_type]; kernel_rfl
  obtain ⟨hp, g, d, tk, os⟩ := s
  dsimp only
  wp_walk
  refine wpAny_askSetting (wpAny_pure ?_)
  dsimp only
  simp only [newObj]
  exact wpAny_bind (wpAny_alloc (wpAny_pure (wpAny_pure h)))

/-- set(t), t a tuple of texts -/
theorem txt_of_tuple {l : Addr} {items : Array Value} {xs : List Str} {Q : Value → Shared → Prop} (hh : A.handled = none) (hl : s.heap.IsTuple l items) (hi : StrsAre items.toList xs) (hb : xs.length + 1 < scanBound)
    (h : ∀ (h' : Heap) (tk m : Nat), m ≤ xs.length → TxtSet prog w h' s.heap.objs.size (fun x => decide (x ∈ xs)) m → (∀ b o, b < s.heap.objs.size → s.heap.get? b = some o → h'.get? b = some o) → s.heap.objs.size ≤ h'.objs.size → Q (.ref s.heap.objs.size) { s with heap := h', toks := tk }) :
    wpAny (model prog w) A (call (.type "set") [.ref l]) Q E s := by
  obtain ⟨c, tl, hmro⟩ := PySem.F.called_set.mro
  have made := PySem.F.called_set.made
  have sub := PySem.F.called_set.sub
  refine wpAny_call (codeAny_of_tree ?_)
  show wpAny _ _ (callAny (.type "set") _) _ _ _
  refine wpAny_pure ⟨Code.quiet_builtin _ (by decide +kernel), codeAny_builtin PySem.F.entry_type_call ?_⟩
  rw [Around.under_plain (weight_type_call_type "set" [.ref l] []) rfl]
  have n1 := PySem.F.called_set.notType
  have n2 := PySem.F.called_set.canCreate
  have n3 := PySem.F.typeCall_set_1 (.ref l)
  repeat (any_goals (first | assumption | wp_step))
  refine codeAny_mono (txt_new (.ref l) (E := E) (Q₁ := fun obj s₁ => obj = .ref s.heap.objs.size ∧ s₁ = { s with heap := s.heap.push { cls := .type "set", dict := none, data := .set #[] 0 (.fresh 0 0 (!w.params.followText "set-order")) } }) ⟨rfl, rfl⟩) fun r s₁ hr => ?_
  cases r with
  | error e => exact hr
  | ok fl =>
    cases fl with
    | ret obj =>
      obtain ⟨rfl, rfl⟩ := hr
      generalize hled : (!w.params.followText "set-order") = led
      have hS : (s.heap.push { cls := .type "set", dict := none, data := .set #[] 0 (.fresh 0 0 led) }).get? s.heap.objs.size = some { cls := .type "set", dict := none, data := .set #[] 0 (.fresh 0 0 led) } := Heap.get?_push_size _ rfl
      have hT : Shared.TypeIs { s with heap := s.heap.push { cls := .type "set", dict := none, data := .set #[] 0 (.fresh 0 0 led) } } (.ref s.heap.objs.size) "set" := ⟨_, hS, rfl⟩
      have i1 := PySem.F.called_set.init.lookup
      have i2 := PySem.F.called_set.init.bind (.ref s.heap.objs.size)
      repeat (any_goals (first | assumption | wp_step))
      refine codeAny_mono (codeAny_call_builtin (R := wants (fun r s₂ => r = .none ∧ ∃ h' tk m, s₂ = { s with heap := h', toks := tk } ∧ m ≤ xs.length ∧ TxtSet prog w h' s.heap.objs.size (fun x => decide (x ∈ xs)) m ∧
          (∀ b o, b < s.heap.objs.size → s.heap.get? b = some o → h'.get? b = some o) ∧ s.heap.objs.size ≤ h'.objs.size) E) PySem.F.called_set.init.plain PySem.F.entry_set_init (check_set_init_1 hT ?_)) fun r₂ s₂ hr₂ => ?_
      · obtain ⟨ol, hol, hcl, nl, hdl⟩ := hl
        obtain ⟨ocls, odict, odata, oslots⟩ := ol
        simp only at hcl hdl
        subst hcl hdl
        have hol' : (s.heap.push { cls := .type "set", dict := none, data := .set #[] 0 (.fresh 0 0 led) }).get? l = some { cls := .type "tuple", dict := odict, data := .seq items nl, slots := oslots } := Heap.get?_push_of_some _ hol
        have u1 := PySem.F.sub_tuple_set
        have u2 := PySem.F.sub_tuple_frozenset
        have u3 : (Value.type "tuple" == Value.type "dict") = false := by decide
        have hl1 : (s.heap.push { cls := .type "set", dict := none, data := .set #[] 0 (.fresh 0 0 led) }).IsTuple l items := ⟨_, hol', rfl, nl, rfl⟩
        unfold Builtin.«set.__init__» noKeywords Builtin.Frozenset.updateFrom
        generalize hPI : pyIter = PI
        wp_walk
        subst hPI
        refine wpAny_pyIter_tuple hl1 (wpAny_bind (wpAny_runValue ?_))
        have hlS : l < s.heap.objs.size := Heap.lt_size hol
        have h3 : A.in1.in1.in1.handled = none := by simp [hh]
        have neI : l ≠ (s.heap.push { cls := .type "set", dict := none, data := .set #[] 0 (.fresh 0 0 led) }).objs.size := by
          rw [Heap.size_push]
          exact Nat.ne_of_lt (Nat.lt_succ_of_lt hlS)
        have nS : s.heap.objs.size ∉ [(s.heap.push { cls := .type "set", dict := none, data := .set #[] 0 (.fresh 0 0 led) }).objs.size, l] := by
          rw [Heap.size_push]
          simp only [List.mem_cons, List.not_mem_nil, or_false, not_or]
          exact ⟨Nat.ne_of_lt (Nat.lt_succ_self _), Nat.ne_of_gt hlS⟩
        have hz : xs.length = items.size := by rw [← StrsAre.len_eq hi, Array.length_toList]
        have hget : ((s.heap.push { cls := .type "set", dict := none, data := .set #[] 0 (.fresh 0 0 led) }).push { cls := .type "tuple_iterator", data := .fields #[.ref l, .int 0 0] }).get? s.heap.objs.size = some { cls := .type "set", dict := none, data := .set #[] 0 (.fresh 0 0 led) } := Heap.get?_push_of_some _ hS
        refine txt_loop ((Walks.tuple h3 _ l neI items).toS) s.heap.objs.size nS xs hz (by rw [← hz]; exact hb) (fun i v hv => strsAre_get hi i v (by rw [Array.getElem?_toList]; exact hv)) (items.size - 0) 0 0 _ (by omega) (Nat.zero_le _) (Nat.le_refl _) ⟨⟨_, Heap.get?_push_size _ rfl, rfl, rfl⟩, hl1.push _⟩ ?hS0 ?hR
        case hS0 =>
          refine ⟨⟨_, #[], 0, _, hget, ⟨rfl, rfl, rfl⟩, rfl, fun e he => by simp at he, by simp, fun x => by simp, by decide, rfl, rfl, List.Pairwise.nil, ?_⟩⟩
          show _ ∨ led = true
          rw [← hled]
          cases w.params.followText "set-order"
          · exact .inr rfl
          · exact .inl rfl
        case hR =>
          intro s' m' mv hm' hS'
          obtain ⟨h', g', d', tk', os'⟩ := s'
          have eg : g' = s.gens := mv.gens
          have ed : d' = s.drawn := mv.drawn
          have eo : os' = s.os := mv.os
          subst eg ed eo
          show wpAny _ _ _ _ _ _
          refine wpAny_pure ?_
          show wpAny _ _ (ret Value.none) _ _ _
          have kp : ∀ b o, b < s.heap.objs.size → s.heap.get? b = some o → h'.get? b = some o := fun b o hb e => by
            have b1 : b ≠ s.heap.objs.size := Nat.ne_of_lt hb
            have b2 : b ≠ (s.heap.push { cls := .type "set", dict := none, data := .set #[] 0 (.fresh 0 0 led) }).objs.size := by
              rw [Heap.size_push]
              exact Nat.ne_of_lt (Nat.lt_succ_of_lt hb)
            exact mv.heap b o (by simp only [List.mem_cons, List.not_mem_nil, or_false, not_or]; exact ⟨b1, b2⟩) (Heap.get?_push_of_some _ (Heap.get?_push_of_some _ e))
          refine wpAny_pure ⟨rfl, h', tk', m', rfl, by rw [hz]; exact hm', hS', kp, ?_⟩
          obtain ⟨o, _, _, _, ho, _⟩ := hS'.all
          exact Nat.le_of_lt (Heap.lt_size ho)
      · cases r₂ with
        | error e => exact hr₂
        | ok fl₂ =>
          cases fl₂ with
          | ret r =>
            obtain ⟨rfl, h', tk, m, rfl, hm, hS', hk', hsz⟩ := hr₂
            repeat (any_goals (first | assumption | wp_step))
            exact h _ _ m hm hS' hk' hsz
          | _ => exact hr₂.elim
    | _ => exact hr.elim
end
end DL

set_option Elab.async false
set_option linter.all false
set_option maxRecDepth 100000
set_option maxHeartbeats 2000000
namespace DL
open PySem PySem.Spec L2
open PyProof.Rows hiding St

/-! ### texts in order -/
def ltS (x y : Str) : Bool := decide (x.cps.toList < y.cps.toList)
def insS (x : Str) : List Str → List Str
  | [] => [x]
  | y :: r => if ltS x y then x :: y :: r else if ltS y x then y :: insS x r else y :: r
/-- the texts of a list, each once, ascending -/
def sortS (l : List Str) : List Str := l.foldr insS []
theorem str_of_cps {x y : Str} (h : x.cps.toList = y.cps.toList) : x = y := by
  obtain ⟨⟨a⟩⟩ := x
  obtain ⟨⟨b⟩⟩ := y
  have h : a = b := h
  subst h
  rfl
theorem ltS_irr (x : Str) : ltS x x = false := decide_eq_false (List.lt_irrefl _)
theorem ltS_trans {x y z : Str} (a : ltS x y = true) (b : ltS y z = true) : ltS x z = true := decide_eq_true (List.lt_trans (of_decide_eq_true a) (of_decide_eq_true b))
theorem ltS_tri {x y : Str} (a : ltS x y = false) (b : ltS y x = false) : x = y := by
  refine str_of_cps (List.le_antisymm ?_ ?_)
  · exact List.not_lt.mp (of_decide_eq_false b)
  · exact List.not_lt.mp (of_decide_eq_false a)
theorem mem_insS {x z : Str} : ∀ {l : List Str}, z ∈ insS x l ↔ z = x ∨ z ∈ l
  | [] => by simp [insS]
  | y :: r => by
    unfold insS
    split
    · simp
    · rename_i h1
      split
      · rw [List.mem_cons, mem_insS, List.mem_cons]
        exact ⟨fun h => h.elim (fun e => .inr (.inl e)) fun h => h.elim .inl fun h => .inr (.inr h), fun h => h.elim (fun e => .inr (.inl e)) fun h => h.elim .inl fun h => .inr (.inr h)⟩
      · rename_i h2
        have e : x = y := ltS_tri (by simpa using h1) (by simpa using h2)
        subst e
        simp
theorem mem_sortS {z : Str} : ∀ {l : List Str}, z ∈ sortS l ↔ z ∈ l
  | [] => by simp [sortS]
  | x :: l => by
    show z ∈ insS x (sortS l) ↔ _
    rw [mem_insS, mem_sortS, List.mem_cons]
abbrev Asc (l : List Str) : Prop := l.Pairwise fun a b => ltS a b = true
theorem asc_insS {x : Str} : ∀ {l : List Str}, Asc l → Asc (insS x l)
  | [], _ => by simp [insS]
  | y :: r, h => by
    obtain ⟨h1, h2⟩ := List.pairwise_cons.mp h
    unfold insS
    split
    · rename_i q
      exact List.pairwise_cons.mpr ⟨fun z hz => (List.mem_cons.mp hz).elim (fun e => by rw [e]; exact q) fun hz => ltS_trans q (h1 z hz), h⟩
    · split
      · rename_i q
        exact List.pairwise_cons.mpr ⟨fun z hz => (mem_insS.mp hz).elim (fun e => by rw [e]; exact q) (h1 z), asc_insS h2⟩
      · exact h
theorem asc_sortS : ∀ (l : List Str), Asc (sortS l)
  | [] => List.Pairwise.nil
  | x :: l => asc_insS (asc_sortS l)
theorem asc_one : ∀ {l m : List Str}, Asc l → Asc m → (∀ z, z ∈ l ↔ z ∈ m) → l = m
  | [], [], _, _, _ => rfl
  | [], y :: m, _, _, h => by simpa using (h y).mpr List.mem_cons_self
  | x :: l, [], _, _, h => by simpa using (h x).mp List.mem_cons_self
  | x :: l, y :: m, a, b, h => by
    obtain ⟨a1, a2⟩ := List.pairwise_cons.mp a
    obtain ⟨b1, b2⟩ := List.pairwise_cons.mp b
    have e : x = y := by
      rcases List.mem_cons.mp ((h x).mp List.mem_cons_self) with e | hx
      · exact e
      · rcases List.mem_cons.mp ((h y).mpr List.mem_cons_self) with e | hy
        · exact e.symm
        · have := ltS_trans (b1 x hx) (a1 y hy)
          rw [ltS_irr] at this
          cases this
    subst e
    have ne : ∀ z, ltS x z = true → z ≠ x := fun z q e => by
      rw [e, ltS_irr] at q
      cases q
    rw [asc_one a2 b2 fun z => ⟨fun hz => ((List.mem_cons.mp ((h z).mp (List.mem_cons_of_mem _ hz))).resolve_left (ne z (a1 z hz))), fun hz => ((List.mem_cons.mp ((h z).mpr (List.mem_cons_of_mem _ hz))).resolve_left (ne z (b1 z hz)))⟩]
theorem asc_of : ∀ (l : List Str), sortedS l = true → l.Nodup → Asc l
  | [], _, _ => List.Pairwise.nil
  | x :: r, h, d => by
    have go : ∀ (r : List Str) (p : Str), risingS p r = true → (p :: r).Nodup → Asc (p :: r) := fun r => by
      induction r with
      | nil => exact fun p _ _ => List.pairwise_singleton _ _
      | cons y r ih =>
        intro p hp hd
        simp only [risingS, Bool.and_eq_true, Bool.not_eq_true'] at hp
        obtain ⟨d1, d2⟩ := List.nodup_cons.mp hd
        have q := ih y hp.2 d2
        have py : ltS p y = true := by
          cases e : ltS p y with
          | true => rfl
          | false =>
            have e2 : ltS y p = false := by
              have := hp.1
              rw [ltCps_eq] at this
              exact this
            exact absurd (by rw [ltS_tri e e2]; exact List.mem_cons_self) d1
        refine List.pairwise_cons.mpr ⟨fun z hz => ?_, q⟩
        rcases List.mem_cons.mp hz with e | hz
        · rw [e]; exact py
        · exact ltS_trans py ((List.pairwise_cons.mp q).1 z hz)
    exact go r x h d

section
variable {P : Program} {w : World} {A : Around} {E : Value → Shared → Prop} {s : Shared} {a : Addr} {S : Str → Bool} {n : Nat}
theorem strsAre_of_txt : ∀ (l : List Value), (∀ v ∈ l, ∃ x tk, v = Value.str x tk) → StrsAre l (l.map strOf)
  | [], _ => .nil
  | v :: l, h => by
    obtain ⟨x, tk, rfl⟩ := h v List.mem_cons_self
    exact .cons x tk (strsAre_of_txt l fun u hu => h u (List.mem_cons_of_mem _ hu))
theorem keyS_of {e : Int × Value} (g : isTxt P w e) : strOf e.2 = keyS e := by
  obtain ⟨x, tk, e1, _⟩ := g
  unfold keyS
  rw [e1]
  rfl
theorem txt_sorted {Q : Value → Shared → Prop} (R : TxtSet P w s.heap a S n) (hh : A.handled = none) (h64 : n < 64)
    (hQ : ∀ s' p (out : Array Value) (c : Nat) (ss : List Str), (∀ b o, s.heap.get? b = some o → s'.heap.get? b = some o) → s'.gens = s.gens → s'.os = s.os → s.heap.objs.size ≤ p →
      s'.heap.get? p = some (seqObj "list" out c) → StrsAre out.toList ss → Asc ss → (∀ x, x ∈ ss ↔ S x = true) → ss.length = n → Q (.ref p) s') : wpAny (model P w) A (call (.builtin "sorted") [.ref a]) Q E s := by
  obtain ⟨o, es, ep, t, ho, hex, hd, g, nd, hm, hb, hf, hn, hr, hl⟩ := R.all
  refine Calls.call_function_entry kind_sorted plain_sorted entry_sorted (args_sorted1 _) ?_
  unfold Builtin.«sorted»
  refine wpAny_bind (m := checkCount "sorted" 1 1 _) (wpAny_pure (wpAny_bind (collect_set (A := A.in1) hh ⟨o, ho, hex.1, hd⟩ hf hb hr hl fun s1 vs k1 hz g1 o1 pm => ?_)))
  have hvl : vs.length = n := by rw [pm.length_eq, List.length_map, Array.length_toList]; exact hn
  have hI : StrsAre vs (vs.map strOf) := strsAre_of_txt vs fun v hv => by
    obtain ⟨e, he, q⟩ := List.mem_map.mp (pm.mem_iff.mp hv)
    obtain ⟨x, tk, e1, _⟩ := g e he
    exact ⟨x, tk, by rw [← q]; exact e1⟩
  have pk : (vs.map strOf).Perm (es.toList.map keyS) := by
    have q := pm.map strOf
    rw [List.map_map] at q
    rw [← List.map_congr_left (fun e he => keyS_of (g e he))]
    exact q
  refine wpAny_bind (wpAny_newList ?_ (by rw [hvl, sizeLine_eq]; omega))
  have hoL : (s1.heap.push (seqObj "list" vs.toArray 0)).get? s1.heap.objs.size = some (seqObj "list" vs.toArray 0) := Heap.get?_push_size _ rfl
  refine wpAny_bind (wpAny_holding (wpAny_call_entry slot_list_sort ⟨_, hoL, rfl⟩ entry_list_sort (list_sort_treeK strKind_oneLt hoL hI.keysOf (fun v₁ v₂ rest e => keyKind_strs (by rw [← e]; exact hI)) (by rw [hvl]; exact h64) fun st' hp hs => ⟨_, rfl, ?_⟩) (args_list_sort _)))
  obtain ⟨ss, q1, q2, q3⟩ := sorted_out_str hI hp hs
  obtain ⟨c, hc⟩ := sortedHeap_at (vs := vs) (out := (arrOf st').map (·.2)) hoL
  have pn : ss.Perm (es.toList.map keyS) := q2.trans pk
  refine wpAny_pure ⟨_, rfl, hQ _ s1.heap.objs.size _ c ss (fun b u e => ?_) g1 o1 hz hc q1 (asc_of ss q3 (pn.nodup_iff.mpr nd)) (fun k => by rw [pn.mem_iff, ← hm k]) ?_⟩
  · have q := k1 b u e
    have lt := Heap.lt_size q
    show (sortedHeap (s1.heap.push (seqObj "list" vs.toArray 0)) s1.heap.objs.size vs _).get? b = some u
    rw [sortedHeap_old (Nat.ne_of_lt lt) (by rw [size_push']; exact Nat.lt_succ_of_lt lt)]
    exact Heap.get?_push_of_some _ q
  · rw [pn.length_eq, List.length_map, Array.length_toList]
    exact hn
end

def tSortedSet (K : PySem.W.Frag) (ta : TE) : TE := fun σ H Q => ta σ H fun x H1 => ∃ (l : Addr) (xs : List Str), x = .ref l ∧ SqT K H1 l (xs.map V.str) ∧ xs.length < 60 ∧ ∀ p, H1 p = none → Q (.ref p) (upd H1 p (.lst ((sortS xs).map V.str)))
section
variable {X : Cx} {W : WX}
theorem pe_sortedSet {a : Expr} {ta : TE} {p p2 q pos : Pos} (hc : X.calm = true) (hg : Gl X "sorted") (hm : X.mg "sorted" = none) (hg2 : Gl X "set") (hm2 : X.mg "set" = none) (ha : PE X a ta)
    (na : starEach [a] X.env = (false, eval a X.env) :: starEach [] X.env := by rfl) : PE X (.Call (.Name "sorted" p) [.Call (.Name "set" p2) [a] [] q] [] pos) (tSortedSet X.K ta) := by
  refine ⟨fun pins s σ H Q I h => Call_ (ld_blt I hg hm boot_sorted ?_)⟩
  refine callWith_builtin1 (args_cons ?_ rfl) rfl rfl
  refine Call_ (ld_blt I hg2 hm2 boot_set (callWith_type1 (args_cons (thn (ha.run pins s σ H _ I h) fun v s1 ⟨x, H1, I1, r1, q1⟩ => args_nil ?_) na) na rfl))
  obtain ⟨l, xs, rfl, hq, hl, q1⟩ := q1
  cases r1
  obtain ⟨its, r, pl, hz⟩ := I1.tuple hq
  refine txt_of_tuple (I1.ok.hd hc) (show s1.heap.IsTuple l its.toArray from pl) (by simpa using strsAre_of r) (by unfold scanBound; omega) fun h' tk m hm' hS hk hsz => args_nil ?_
  have I2 : Inv X pins σ H1 { s1 with heap := h', toks := tk } := I1.kept fun b o e => hk b o (Heap.lt_size e) e
  refine txt_sorted (s := { s1 with heap := h', toks := tk }) hS (I1.ok.hd hc) (by omega) fun s' p' out c ss kp eg eo hp' hob hst ha' hmem hlen => ?_
  have es : ss = sortS xs := asc_one ha' (asc_sortS xs) fun z => by rw [hmem, mem_sortS]; exact decide_eq_true_iff
  subst es
  obtain ⟨hp2, g2, d2, t2, o2⟩ := s'
  have eg : g2 = s1.gens := eg
  have eo : o2 = s1.os := eo
  subst eg eo
  have hf : H1 p' = none := I2.hok.fresh hp'
  refine ⟨.ref p', upd H1 p' (.lst ((sortS xs).map V.str)), ?_, rfl, q1 p' hf⟩
  have hlen2 : ((sortS xs).map V.str).length ≤ sizeLine := by
    rw [List.length_map, hlen, sizeLine_eq]
    omega
  refine I2.call (h' := hp2) (g' := s1.gens) (d' := d2) (t' := t2) (ch := []) (Un.laid kp hp' hf) (I2.hok.laid kp hp' ⟨hlen2, out.toList, c, vals_of_strs hst, hob⟩) I2.bare fun b z => absurd z (by simp)
def strsD : List D → Option (List Str)
  | [] => some []
  | .str x :: r => (strsD r).map (x :: ·)
  | _ => none
theorem strsD_reps {K : PySem.W.Frag} {β : Bx} {H : Hp} : ∀ {l : List D} {xs : List V} {ss : List Str}, Reps K β H xs l → strsD l = some ss → xs = ss.map V.str
  | [], _, _, r, e => by
    cases r
    cases e
    rfl
  | d :: l, _, _, r, e => by
    cases r with
    | cons r1 r2 =>
      cases d <;> simp only [strsD, reduceCtorEq] at e
      rw [Option.map_eq_some_iff] at e
      obtain ⟨ss, hs, rfl⟩ := e
      cases r1
      rw [strsD_reps r2 hs]
      rfl
theorem reps_strs {K : PySem.W.Frag} {β : Bx} {H : Hp} : ∀ (ss : List Str), Reps K β H (ss.map V.str) (ss.map D.str)
  | [] => .nil
  | x :: ss => .cons (.str x) (reps_strs ss)
def mSortedSet : D → Sto → Option D
  | .tup l, _ => match strsD l with
    | some ss => if ss.length < 60 ∧ (sortS ss).length ≤ LIM then some (.lst ((sortS ss).map D.str)) else none
    | none => none
  | _, _ => none
theorem de_sortedSet {a : Expr} {f : G D} {p p2 q pos : Pos} (hc : X.calm = true) (hg : Gl X "sorted") (hm : X.mg "sorted" = none) (hg2 : Gl X "set") (hm2 : X.mg "set" = none) (ha : DE X W a f)
    (na : starEach [a] X.env = (false, eval a X.env) :: starEach [] X.env := by rfl) : DE X W (.Call (.Name "sorted" p) [.Call (.Name "set" p2) [a] [] q] [] pos) (gUn mSortedSet f) := by
  refine PEmono (pe_sortedSet hc hg hm hg2 hm2 ha na) fun σ H Q h => ?_
  obtain ⟨β, ρ, st, hρ, hs, h⟩ := h
  refine tD_intro hρ hs (Out.sat_bind h) (fun d s1 h1 v β1 H1 e1 S1 r1 => ?_) fun _ _ q => q
  obtain ⟨d3, e, p⟩ := oout_sat h1
  cases d with
  | tup l =>
    simp only [mSortedSet] at e
    split at e
    · rename_i ss hss
      split at e
      · rename_i hz
        cases e
        cases r1 with
        | tup h1 h2 h3 =>
          refine ⟨_, ss, rfl, by rw [← strsD_reps h2 hss]; exact h1, hz.1, fun p' hp => ?_⟩
          exact p (.ref p') β1 _ (e1.trans (Ext.new hp)) (S1.fresh hp) (.lst upd_same (S1.nmem hp) (reps_strs _) (by rw [List.length_map]; exact leLIM hz.2))
      · cases e
    · cases e
  | _ => simp only [mSortedSet, reduceCtorEq] at e
end
end DL

set_option Elab.async false
set_option linter.all false
set_option maxRecDepth 100000
set_option maxHeartbeats 2000000
/-! # Running the functions of data: one row a construct, for simp -/
namespace DL
open PySem PySem.Spec L2
open PyProof.Rows hiding St
section
variable {ρ : Env} {st s1 : Sto} {d e v : D} {x y : Str} {i j : Int} {a b l : List D} {n k : Nat} {p q : Bool} {f g : G D} {fs : G (List D)} {t u : G Bool} {m m' : D → D → Sto → Option D}
def blOut (d : D) (st : Sto) : Out Bool := match d with
  | .bl k => .ok k st
  | _ => .bad
@[simp] theorem e_blOut : blOut (.bl p) st = .ok p st := rfl
@[simp] theorem e_C : gC d ρ st = .ok d st := rfl
@[simp] theorem e_V0 {r : Env} : gVar 0 (some d :: r) st = .ok d st := rfl
@[simp] theorem e_VS {z : Option D} {r : Env} : gVar (n + 1) (z :: r) st = gVar n r st := by simp [gVar]
@[simp] def kOp2 (m : D → D → Sto → Option D) (d e : D) (s2 : Sto) : Out D := oout (m d e s2) s2
@[simp] def kOp (m : D → D → Sto → Option D) (g : G D) (ρ : Env) (d : D) (s1 : Sto) : Out D := (g ρ s1).bind (kOp2 m d)
@[simp] theorem e_Op : gOp m f g ρ st = (f ρ st).bind (kOp m g ρ) := rfl
@[simp] def kUn (m : D → Sto → Option D) (d : D) (s1 : Sto) : Out D := oout (m d s1) s1
@[simp] theorem e_Un {m : D → Sto → Option D} : gUn m f ρ st = (f ρ st).bind (kUn m) := rfl
@[simp] theorem e_Nil : aNil ρ st = .ok [] st := rfl
@[simp] def kCons2 (d : D) (ds : List D) (s2 : Sto) : Out (List D) := .ok (d :: ds) s2
@[simp] def kCons (fs : G (List D)) (ρ : Env) (d : D) (s1 : Sto) : Out (List D) := (fs ρ s1).bind (kCons2 d)
@[simp] theorem e_Cons : aCons f fs ρ st = (f ρ st).bind (kCons fs ρ) := rfl
@[simp] def kCB (m : List D → Sto → Option D) (ds : List D) (s1 : Sto) : Out D := oout (m ds s1) s1
@[simp] theorem e_CB {m : List D → Sto → Option D} : gCB m fs ρ st = (fs ρ st).bind (kCB m) := rfl
@[simp] theorem e_Call {m : List D → Sto → Out D} : gCall m fs ρ st = (fs ρ st).bind m := rfl
@[simp] def kTup (ds : List D) (s1 : Sto) : Out D := if ds.length ≤ 1000 then .ok (.tup ds) s1 else .bad
@[simp] theorem e_TupD : gTupD fs ρ st = (fs ρ st).bind kTup := rfl
@[simp] def kLst (ds : List D) (s1 : Sto) : Out D := if ds.length ≤ 1000 then .ok (.lst ds) s1 else .bad
@[simp] theorem e_LstD : gLstD fs ρ st = (fs ρ st).bind kLst := rfl
@[simp] def kLstM (ds : List D) (s1 : Sto) : Out D := if ds.length ≤ 1000 then .ok (.ref s1.length) (s1 ++ [.lst ds]) else .bad
@[simp] theorem e_LstM : gLstM fs ρ st = (fs ρ st).bind kLstM := rfl
@[simp] theorem e_DctM : gDctM ρ st = .ok (.ref st.length) (st ++ [.dK []]) := rfl
@[simp] def kAnd2 (g : G D) (ρ : Env) (d : D) (k : Bool) (s1 : Sto) : Out D := if k then g ρ s1 else .ok d s1
@[simp] def kAnd (g : G D) (ρ : Env) (d : D) (s1 : Sto) : Out D := (oout (mTru d s1) s1).bind (kAnd2 g ρ d)
@[simp] theorem e_And : gAnd f g ρ st = (f ρ st).bind (kAnd g ρ) := rfl
@[simp] def kOr2 (g : G D) (ρ : Env) (d : D) (k : Bool) (s1 : Sto) : Out D := if k then .ok d s1 else g ρ s1
@[simp] def kOr (g : G D) (ρ : Env) (d : D) (s1 : Sto) : Out D := (oout (mTru d s1) s1).bind (kOr2 g ρ d)
@[simp] theorem e_Or : gOr f g ρ st = (f ρ st).bind (kOr g ρ) := rfl
@[simp] def kNot2 (k : Bool) (s1 : Sto) : Out D := .ok (.bl !k) s1
@[simp] def kNot (d : D) (s1 : Sto) : Out D := (oout (mTru d s1) s1).bind kNot2
@[simp] theorem e_Not : gNot f ρ st = (f ρ st).bind kNot := rfl
@[simp] def kTr (d : D) (s1 : Sto) : Out Bool := oout (mTru d s1) s1
@[simp] theorem e_Tr : gTr f ρ st = (f ρ st).bind kTr := rfl
@[simp] def kIf (f g : G D) (ρ : Env) (k : Bool) (s1 : Sto) : Out D := if k then f ρ s1 else g ρ s1
@[simp] theorem e_If : gIf t f g ρ st = (t ρ st).bind (kIf f g ρ) := rfl
@[simp] def kTNot (k : Bool) (s1 : Sto) : Out Bool := .ok (!k) s1
@[simp] theorem e_TNot : gTNot t ρ st = (t ρ st).bind kTNot := rfl
@[simp] def kTAnd (u : G Bool) (ρ : Env) (k : Bool) (s1 : Sto) : Out Bool := if k then u ρ s1 else .ok false s1
@[simp] theorem e_TAnd : gTAnd t u ρ st = (t ρ st).bind (kTAnd u ρ) := rfl
@[simp] def kTOr (u : G Bool) (ρ : Env) (k : Bool) (s1 : Sto) : Out Bool := if k then .ok true s1 else u ρ s1
@[simp] theorem e_TOr : gTOr t u ρ st = (t ρ st).bind (kTOr u ρ) := rfl
@[simp] theorem e_Bl : gBl f ρ st = (f ρ st).bind blOut := rfl
@[simp] def kCh3 (m' : D → D → Sto → Option D) (e e' : D) (s3 : Sto) : Out Bool := (oout (m' e e' s3) s3).bind blOut
def kCh2 (m' : D → D → Sto → Option D) (e : D) (h : G D) (ρ : Env) (k : D) (s2 : Sto) : Out Bool := match k with
  | .bl true => (h ρ s2).bind (kCh3 m' e)
  | .bl false => .ok false s2
  | _ => .bad
@[simp] theorem e_ch1 {h : G D} : kCh2 m' e h ρ (.bl true) st = (h ρ st).bind (kCh3 m' e) := rfl
@[simp] theorem e_ch0 {h : G D} : kCh2 m' e h ρ (.bl false) st = .ok false st := rfl
@[simp] theorem e_chd {h : G D} {P : Prop} [Decidable P] : kCh2 m' e h ρ (.bl (decide P)) st = if P then (h ρ st).bind (kCh3 m' e) else .ok false st := by
  by_cases c : P
  · rw [if_pos c, decide_eq_true c]
    rfl
  · rw [if_neg c, decide_eq_false c]
    rfl
@[simp] def kCh1 (m m' : D → D → Sto → Option D) (h : G D) (ρ : Env) (d e : D) (s2 : Sto) : Out Bool := (oout (m d e s2) s2).bind (kCh2 m' e h ρ)
@[simp] def kCh (m m' : D → D → Sto → Option D) (g h : G D) (ρ : Env) (d : D) (s1 : Sto) : Out Bool := (g ρ s1).bind (kCh1 m m' h ρ d)
@[simp] theorem e_Chain {h : G D} : gChain m m' f g h ρ st = (f ρ st).bind (kCh m m' g h ρ) := rfl
@[simp] def kB (k : Bool) (s1 : Sto) : Out D := .ok (.bl k) s1
@[simp] theorem e_B : gB t ρ st = (t ρ st).bind kB := rfl
@[simp] theorem e_None : gNone ρ st = .ok none st := rfl
def someOut (d : D) (st : Sto) : Out (Option Int) := match d with
  | .int i => .ok (some i) st
  | _ => .bad
@[simp] theorem e_someOut : someOut (.int i) st = .ok (some i) st := rfl
@[simp] theorem e_Some : gSome f ρ st = (f ρ st).bind someOut := rfl
@[simp] def kSl3 (d : D) (l u : Option Int) (s3 : Sto) : Out D := oout (mSl d l u s3) s3
@[simp] def kSl2 (hi : G (Option Int)) (ρ : Env) (d : D) (l : Option Int) (s2 : Sto) : Out D := (hi ρ s2).bind (kSl3 d l)
@[simp] def kSl (lo hi : G (Option Int)) (ρ : Env) (d : D) (s1 : Sto) : Out D := (lo ρ s1).bind (kSl2 hi ρ d)
@[simp] theorem e_Op3 {lo hi : G (Option Int)} : gOp3 f lo hi ρ st = (f ρ st).bind (kSl lo hi ρ) := rfl
@[simp] def kSeq (d : D) (s1 : Sto) : Out (List D) := oout (mSeq d s1) s1
@[simp] theorem e_Seq : gSeq f ρ st = (f ρ st).bind kSeq := rfl
@[simp] def kRange1 (d : List D) (s1 : Sto) : Out (List D) := oout (mRange1 d) s1
@[simp] theorem e_Range1 : gRange1 fs ρ st = (fs ρ st).bind kRange1 := rfl
@[simp] def kRange2 (d : List D) (s1 : Sto) : Out (List D) := oout (mRange2 d) s1
@[simp] theorem e_Range2 : gRange2 fs ρ st = (fs ρ st).bind kRange2 := rfl
@[simp] def kZip (d : List D) (s1 : Sto) : Out (List D) := oout (mZip d) s1
@[simp] theorem e_Zip : gZip fs ρ st = (fs ρ st).bind kZip := rfl
@[simp] theorem e_Yes : gYes ρ st = .ok true st := rfl
@[simp] def kLs (ys : List D) (s2 : Sto) : Out D := .ok (.lst ys) s2
@[simp] def kComp (vs : List Nat) (pt : Pat) (t : G Bool) (f : G D) (ρ : Env) (items : List D) (s1 : Sto) : Out D := (compGo (wipeE ρ vs) pt t f items s1).bind kLs
@[simp] theorem e_Comp {vs : List Nat} {fi : G (List D)} {pt : Pat} : gComp vs fi pt t f ρ st = (fi ρ st).bind (kComp vs pt t f ρ) := rfl
@[simp] def kLsM (ys : List D) (s2 : Sto) : Out D := .ok (.ref s2.length) (s2 ++ [.lst ys])
@[simp] def kCompM (vs : List Nat) (pt : Pat) (t : G Bool) (f : G D) (ρ : Env) (items : List D) (s1 : Sto) : Out D := (compGo (wipeE ρ vs) pt t f items s1).bind kLsM
@[simp] theorem e_CompM {vs : List Nat} {fi : G (List D)} {pt : Pat} : gCompM vs fi pt t f ρ st = (fi ρ st).bind (kCompM vs pt t f ρ) := rfl
def kgetOut (tab : List (Str × D)) (d : D) (st : Sto) : Out D := match d with
  | .str z => .ok ((tab.lookup z).getD .non) st
  | _ => .bad
@[simp] theorem e_kgetOut {tab : List (Str × D)} : kgetOut tab (.str x) st = .ok ((tab.lookup x).getD .non) st := rfl
@[simp] theorem e_KGet {tab : List (Str × D)} : gKGet tab f ρ st = (f ρ st).bind (kgetOut tab) := rfl
/-! statements -/
variable {r r' : G Fl} {fl : Fl}
@[simp] def kSet (n : Nat) (ρ : Env) (d : D) (s1 : Sto) : Out Fl := .ok (.nx (ρ.set n (some d))) s1
@[simp] theorem e_sSet : sSet n f ρ st = (f ρ st).bind (kSet n ρ) := rfl
def patOut (p : Pat) (ρ : Env) (d : D) (s1 : Sto) : Out Fl := match Pat.set p d ρ with
  | some ρ' => .ok (.nx ρ') s1
  | none => .bad
@[simp] theorem e_sPat {pt : Pat} : sPat pt f ρ st = (f ρ st).bind (patOut pt ρ) := rfl
def parOut (i j : Nat) (ρ : Env) (ds : List D) (s1 : Sto) : Out Fl := match ds with
  | [a, b] => .ok (.nx ((ρ.set i (some a)).set j (some b))) s1
  | _ => .bad
@[simp] theorem e_parOut : parOut n k ρ [d, e] st = .ok (.nx ((ρ.set n (some d)).set k (some e))) st := rfl
@[simp] theorem e_sPar : sPar n k fs ρ st = (fs ρ st).bind (parOut n k ρ) := rfl
@[simp] def kRet (d : D) (s1 : Sto) : Out Fl := .ok (.rt d) s1
@[simp] theorem e_sRet : sRet f ρ st = (f ρ st).bind kRet := rfl
@[simp] def kDrop (ρ : Env) (d : D) (s1 : Sto) : Out Fl := .ok (.nx ρ) s1
@[simp] theorem e_sDrop : sDrop f ρ st = (f ρ st).bind (kDrop ρ) := rfl
@[simp] theorem e_sNext : sNext ρ st = .ok (.nx ρ) st := rfl
@[simp] theorem e_sBreak : sBreak ρ st = .ok (.bk ρ) st := rfl
@[simp] theorem e_sCont : sCont ρ st = .ok (.ct ρ) st := rfl
def thenS (g : G Fl) (r : Fl) (s1 : Sto) : Out Fl := match r with
  | .nx ρ' => g ρ' s1
  | r => .ok r s1
@[simp] theorem e_thn : thenS r (.nx ρ) st = r ρ st := rfl
@[simp] theorem e_thr : thenS r (.rt d) st = .ok (.rt d) st := rfl
@[simp] theorem e_thb : thenS r (.bk ρ) st = .ok (.bk ρ) st := rfl
@[simp] theorem e_thc : thenS r (.ct ρ) st = .ok (.ct ρ) st := rfl
theorem sSeq_ap : sSeq r r' ρ st = (r ρ st).bind (thenS r') := by
  unfold sSeq
  congr 1
@[simp] theorem e_sSeq : sSeq r r' ρ st = (r ρ st).bind (thenS r') := sSeq_ap
@[simp] def kSIf (r r' : G Fl) (ρ : Env) (k : Bool) (s1 : Sto) : Out Fl := if k then r ρ s1 else r' ρ s1
@[simp] theorem e_sIf : sIf t r r' ρ st = (t ρ st).bind (kSIf r r' ρ) := rfl
def putOut (o i v : D) (ρ : Env) (st : Sto) : Out Fl := match mPut o i v st with
  | some s4 => .ok (.nx ρ) s4
  | none => .bad
@[simp] def kPut3 (ρ : Env) (v o i : D) (s3 : Sto) : Out Fl := putOut o i v ρ s3
@[simp] def kPut2 (fi : G D) (ρ : Env) (v o : D) (s2 : Sto) : Out Fl := (fi ρ s2).bind (kPut3 ρ v o)
@[simp] def kPut (fo fi : G D) (ρ : Env) (v : D) (s1 : Sto) : Out Fl := (fo ρ s1).bind (kPut2 fi ρ v)
@[simp] theorem e_sPut {fo fi fv : G D} : sPut fo fi fv ρ st = (fv ρ st).bind (kPut fo fi ρ) := rfl
theorem put_at (h : st[n]? = some (.lst l)) (hk : ixN l.length i = some k) : putOut (.ref n) (.int i) v ρ st = .ok (.nx ρ) (st.set n (.lst (l.set k v))) := by
  unfold putOut mPut
  simp only [h, hk, Option.map_some]
@[simp] theorem e_endr : endD (.rt d) st = .ok d st := rfl
@[simp] theorem e_endn : endD (.nx ρ) st = .ok .non st := rfl
@[simp] theorem e_Fun {ds : List D} {gg : G Fl} : gFun n gg ds st = (gg (ds.map some ++ List.replicate (n - ds.length) none) st).bind endD := rfl
@[simp] def kFor (pt : Pat) (r : G Fl) (ρ : Env) (items : List D) (s1 : Sto) : Out Fl := forGo pt r items ρ s1
@[simp] theorem e_sFor {fi : G (List D)} {pt : Pat} : sFor fi pt r ρ st = (fi ρ st).bind (kFor pt r ρ) := rfl
/-! operators -/
@[simp] theorem o_addi : mAdd (.int i) (.int j) st = some (.int (i + j)) := rfl
@[simp] theorem o_addt : mAdd (.tup a) (.tup b) st = if a.length + b.length ≤ LIM then some (.tup (a ++ b)) else none := rfl
@[simp] theorem o_addl : mAdd (.lst a) (.lst b) st = if a.length + b.length ≤ LIM then some (.lst (a ++ b)) else none := rfl
@[simp] theorem o_adds : mAdd (.str x) (.str y) st = if x.length + y.length ≤ LIM then some (.str (x ++ y)) else none := rfl
@[simp] theorem o_sub : mSub (.int i) (.int j) st = some (.int (i - j)) := rfl
@[simp] theorem o_mul : mMul (.int i) (.int j) st = if -(2 ^ 64) < j ∧ j < 2 ^ 64 then some (.int (i * j)) else none := rfl
@[simp] theorem o_mod : mMod (.int i) (.int j) st = if 0 < j then some (.int (i % j)) else none := rfl
@[simp] theorem o_fdiv : mFdiv (.int i) (.int j) st = if 0 < j ∧ j < 1073741824 then some (.int (i / j)) else none := rfl
@[simp] theorem o_pow : mPow (.int i) (.int j) st = if 0 ≤ j ∧ j ≤ 1000000 ∧ i.natAbs < 2 ^ 64 then some (.int (i ^ j.toNat)) else none := rfl
@[simp] theorem o_neg : mNeg (.int i) st = some (.int (-i)) := rfl
@[simp] theorem o_lt : mLt (.int i) (.int j) st = some (.bl (decide (i < j))) := rfl
@[simp] theorem o_le : mLe (.int i) (.int j) st = some (.bl (decide (i ≤ j))) := rfl
@[simp] theorem o_gt : mGt (.int i) (.int j) st = some (.bl (decide (j < i))) := rfl
@[simp] theorem o_ge : mGe (.int i) (.int j) st = some (.bl (decide (j ≤ i))) := rfl
@[simp] theorem o_ixt : mIx (.tup l) (.int i) st = atI l i := rfl
@[simp] theorem o_ixl : mIx (.lst l) (.int i) st = atI l i := rfl
@[simp] theorem o_ixr : mIx (.ro l) (.int i) st = atI l i := rfl
@[simp] theorem o_ixn {r : List SO} : mIx (.ref 0) (.int i) (.lst l :: r) = atI l i := rfl
@[simp] theorem o_int : mInt [.int i] st = some (.int i) := rfl
@[simp] theorem o_intb : mInt [.bl p] st = some (.int (if p then 1 else 0)) := rfl
@[simp] theorem o_lent : mLen [.tup l] st = some (.int l.length) := rfl
@[simp] theorem o_lenl : mLen [.lst l] st = some (.int l.length) := rfl
@[simp] theorem o_lenr : mLen [.ro l] st = some (.int l.length) := rfl
@[simp] theorem o_tupt : mTuple [.tup l] st = some (.tup l) := rfl
@[simp] theorem o_tupl : mTuple [.lst l] st = some (.tup l) := rfl
@[simp] theorem o_lstt : mList [.tup l] st = some (.lst l) := rfl
@[simp] theorem o_lstl : mList [.lst l] st = some (.lst l) := rfl
@[simp] theorem o_min : mMin2 [.int i, .int j] st = some (.int (if j < i then j else i)) := rfl
@[simp] theorem o_trb : mTru (.bl p) st = some p := rfl
@[simp] theorem o_tri : mTru (.int i) st = some (i != 0) := rfl
@[simp] theorem o_trn : mTru .non st = some false := rfl
@[simp] theorem o_trt : mTru (.tup l) st = some (!l.isEmpty) := rfl
@[simp] theorem o_trl : mTru (.lst l) st = some (!l.isEmpty) := rfl
@[simp] theorem o_sqt : mSeq (.tup l) st = some l := rfl
@[simp] theorem o_sql : mSeq (.lst l) st = some l := rfl
@[simp] theorem o_sqr : mSeq (.ro l) st = some l := rfl
@[simp] theorem o_rg1 : mRange1 [.int i] = if i ≤ 1000000 ∧ -1000000 ≤ i then some (intsD 0 i.toNat) else none := rfl
@[simp] theorem o_rg2 : mRange2 [.int i, .int j] = if (-1000000 ≤ i ∧ i ≤ 1000000) ∧ (-1000000 ≤ j ∧ j ≤ 1000000) then some (intsD i (j - i).toNat) else none := rfl
@[simp] theorem o_zip : mZip [.tup a, .tup b] = some (zipD a b) := rfl
@[simp] theorem o_zc : zipD (d :: a) (e :: b) = .tup [d, e] :: zipD a b := rfl
@[simp] theorem o_z0 : zipD [] b = [] := by cases b <;> rfl
@[simp] theorem o_z1 : zipD a [] = [] := by cases a <;> rfl
@[simp] theorem o_isi {s : String} : mIsi [d, .raw (.ty s)] st = match tyD d st with | some a => (isiB a s).map D.bl | none => none := rfl
@[simp] theorem o_isiT : mIsiT [d, .tup l] st = match tyD d st with | some a => (isiAny a l).map D.bl | none => none := rfl
@[simp] theorem o_isb : mIs (.bl p) (.bl q) st = some (.bl (decide (p = q))) := rfl
@[simp] theorem o_inb : mIsNot (.bl p) (.bl q) st = some (.bl (!decide (p = q))) := rfl
@[simp] theorem y_non : tyD .non st = some "NoneType" := rfl
@[simp] theorem y_bl : tyD (.bl p) st = some "bool" := rfl
@[simp] theorem y_int : tyD (.int i) st = some "int" := rfl
@[simp] theorem y_str : tyD (.str x) st = some "str" := rfl
@[simp] theorem y_tup : tyD (.tup l) st = some "tuple" := rfl
@[simp] theorem y_lst : tyD (.lst l) st = some "list" := rfl
@[simp] theorem y_ro : tyD (.ro l) st = some "list" := rfl
/-! comprehensions, loops -/
@[simp] theorem k_nil {pt : Pat} : compGo ρ pt t f [] st = .ok [] st := rfl
@[simp] theorem x_ok {α : Type} {z : α} : (Out.ok z st).nox = .ok z st := rfl
@[simp] def kCo3 (y : D) (ys : List D) (s3 : Sto) : Out (List D) := .ok (y :: ys) s3
@[simp] def kCo2 (ρ : Env) (p : Pat) (t : G Bool) (f : G D) (ds : List D) (y : D) (s2 : Sto) : Out (List D) := (compGo ρ p t f ds s2).bind (kCo3 y)
@[simp] def kCo (ρ : Env) (pt : Pat) (t : G Bool) (f : G D) (ds : List D) (ρ1 : Env) (b : Bool) (s1 : Sto) : Out (List D) := if b then (f ρ1 s1).nox.bind (kCo2 ρ pt t f ds) else compGo ρ pt t f ds s1
theorem k_nm {ds : List D} : compGo ρ (.nm n) t f (d :: ds) st = (t (ρ.set n (some d)) st).nox.bind (kCo ρ (.nm n) t f ds (ρ.set n (some d))) := by
  simp only [compGo, Pat.set]
  rfl
@[simp] theorem w_nil : wipeE ρ [] = ρ := rfl
@[simp] theorem w_cons {vs : List Nat} : wipeE ρ (n :: vs) = (wipeE ρ vs).set n none := rfl
end
theorem atI_cons0 {α : Type} {x : α} {l : List α} : atI (x :: l) 0 = some x := by simp [atI, ixN]
theorem atI_nat' {α : Type} {l : List α} {i : Int} {x : α} (h0 : 0 ≤ i) (h : l[i.toNat]? = some x) : atI l i = some x := by
  have e : i = ((i.toNat : Nat) : Int) := by omega
  rw [e]
  exact atI_nat h

@[simp] theorem atI_lit {α : Type} {l : List α} {n : Nat} : atI l (no_index (@OfNat.ofNat Int n _)) = l[n]? := by
  show atI l ((n : Nat) : Int) = l[n]?
  cases e : l[n]? with
  | some v => exact atI_nat e
  | none =>
    have hl : l.length ≤ n := List.getElem?_eq_none_iff.mp e
    unfold atI ixN
    rw [if_pos (Int.natCast_nonneg n), if_neg (by omega)]
    rfl
@[simp] theorem put_ref {l : List D} {r : List SO} {n : Nat} {v : D} {ρ : Env} (h : n < l.length) : putOut (.ref 0) (.int (no_index (@OfNat.ofNat Int n _))) v ρ (.lst l :: r) = .ok (.nx ρ) (.lst (l.set n v) :: r) := by
  have hk : ixN l.length ((n : Nat) : Int) = some n := by
    unfold ixN
    rw [if_pos (Int.natCast_nonneg n), if_pos (by omega)]
    rfl
  exact put_at (st := .lst l :: r) (n := 0) (k := n) rfl hk

/-! == and in of flat data -/
theorem char_lt (c : Char) : c.toNat < 1114112 := by
  have h := c.valid
  unfold UInt32.isValidChar Nat.isValidChar at h
  show c.val.toNat < _
  omega
theorem char_inj {a b : Char} (h : a.toNat = b.toNat) : a = b := Char.ext (UInt32.toNat_inj.mp h)
theorem chars_inj : ∀ {a b : List Char}, a.map Char.toNat = b.map Char.toNat → a = b
  | [], [], _ => rfl
  | [], _ :: _, h => by simp at h
  | _ :: _, [], h => by simp at h
  | x :: a, y :: b, h => by
    simp only [List.map_cons, List.cons.injEq] at h
    rw [char_inj h.1, chars_inj h.2]
theorem strOk_of (s : String) : PyData.strOk (Str.ofString s) = true := by
  rw [Str.ofString_eq_toList]
  unfold PyData.strOk
  rw [Array.all_eq_true']
  intro n hn
  simp only [List.mem_toArray, List.mem_map] at hn
  obtain ⟨c, _, rfl⟩ := hn
  exact decide_eq_true (char_lt c)
theorem ofString_inj {a b : String} (h : Str.ofString a = Str.ofString b) : a = b := by
  rw [Str.ofString_eq_toList, Str.ofString_eq_toList] at h
  have h1 : a.toList.map Char.toNat = b.toList.map Char.toNat := by
    have := congrArg Str.cps h
    simpa using this
  exact String.toList_inj.mp (chars_inj h1)
@[simp] theorem beq_lit (a b : String) : (Str.ofString a == Str.ofString b) = (a == b) := by
  by_cases h : a = b
  · subst h
    simp
  · rw [beq_false_of_ne h, beq_false_of_ne fun e => h (ofString_inj e)]
theorem okStr {x : Str} (h : PyData.strOk x = true) : okD (.str x) = true := by
  show (PyData.canLay0 (D.str x).py && decide ((D.str x).py.depth ≤ 64)) = true
  simp only [D.py, PyData.canLay0, PyData.depth, h]
  rfl
@[simp] theorem ok_lit (s : String) : okD (.str (Str.ofString s)) = true := okStr (strOk_of s)
@[simp] theorem ok_int {i : Int} : okD (.int i) = true := rfl
@[simp] theorem ok_bl {b : Bool} : okD (.bl b) = true := rfl
@[simp] theorem ok_non : okD .non = true := rfl
@[simp] theorem o_eq {d e : D} {st : Sto} : mEq d e st = if okD d && okD e then some (.bl (eqD d e)) else none := rfl
@[simp] theorem o_ne {d e : D} {st : Sto} : mNe d e st = if okD d && okD e then some (.bl (!eqD d e)) else none := rfl
@[simp] theorem q_int {i j : Int} : eqD (.int i) (.int j) = (i == j) := by simp [eqD, D.py, PyData.eqv]
@[simp] theorem q_str {x y : Str} : eqD (.str x) (.str y) = (x == y) := by simp [eqD, D.py, PyData.eqv]
@[simp] theorem q_bl {x y : Bool} : eqD (.bl x) (.bl y) = (x == y) := by simp [eqD, D.py, PyData.eqv]
end DL

set_option Elab.async false
set_option linter.all false
set_option maxRecDepth 100000
set_option maxHeartbeats 2000000
/-! # == and in of tuples and lists of data; rows for simp -/
namespace DL
open PySem PySem.Spec L2
open PyProof.Rows hiding St
/-- data that can be compared, not deeper than n -/
def okB (n : Nat) (d : D) : Bool := d.py.canLay0 && decide (d.py.depth ≤ n)
theorem okD_64 (d : D) : okD d = okB 64 d := rfl
theorem pys_ok : ∀ (l : List D) (n : Nat), (PyData.canLayAll0 (D.pys l) && decide (PyData.depthAll (D.pys l) ≤ n)) = l.all (okB n)
  | [], n => by simp [D.pys, PyData.canLayAll0, PyData.depthAll]
  | d :: l, n => by
    rw [List.all_cons, ← pys_ok l n]
    simp only [D.pys, PyData.canLayAll0, PyData.depthAll, okB]
    rw [show decide (max d.py.depth (PyData.depthAll (D.pys l)) ≤ n) = (decide (d.py.depth ≤ n) && decide (PyData.depthAll (D.pys l) ≤ n)) by
      rw [← Bool.decide_and]; exact decide_eq_decide.mpr Nat.max_le]
    cases d.py.canLay0 <;> cases PyData.canLayAll0 (D.pys l) <;> simp
section
variable {n : Nat} {l a b : List D} {x y : Str} {i j : Int} {p q : Bool} {d e : D}
theorem okB_seq (h : (D.py d) = .tuple (D.pys l) ∨ (D.py d) = .list (D.pys l)) : okB (n + 1) d = l.all (okB n) := by
  rw [← pys_ok l n]
  unfold okB
  rcases h with h | h <;> rw [h] <;> simp only [PyData.canLay0, PyData.depth] <;> congr 1 <;> exact decide_eq_decide.mpr (by omega)
@[simp] theorem okB_tup : okB (n + 1) (.tup l) = l.all (okB n) := okB_seq (.inl (by simp [D.py]))
@[simp] theorem okB_lst : okB (n + 1) (.lst l) = l.all (okB n) := okB_seq (.inr (by simp [D.py]))
@[simp] theorem okB_ro : okB (n + 1) (.ro l) = l.all (okB n) := okB_seq (.inr (by simp [D.py]))
@[simp] theorem okB_non : okB n .non = true := by simp [okB, D.py, PyData.canLay0, PyData.depth]
@[simp] theorem okB_bl : okB n (.bl p) = true := by simp [okB, D.py, PyData.canLay0, PyData.depth]
@[simp] theorem okB_int : okB n (.int i) = true := by simp [okB, D.py, PyData.canLay0, PyData.depth]
@[simp] theorem okB_str : okB n (.str x) = PyData.strOk x := by simp [okB, D.py, PyData.canLay0, PyData.depth]
@[simp] theorem ok_tup : okD (.tup l) = l.all (okB 63) := okB_tup (n := 63)
@[simp] theorem ok_lst : okD (.lst l) = l.all (okB 63) := okB_lst (n := 63)
@[simp] theorem ok_ro : okD (.ro l) = l.all (okB 63) := okB_ro (n := 63)
@[simp] theorem strOk_lit (s : String) : PyData.strOk (Str.ofString s) = true := strOk_of s
theorem okB_strs {ss : List Str} (h : ∀ s ∈ ss, PyData.strOk s = true) : (ss.map D.str).all (okB n) = true := by
  rw [List.all_map, List.all_eq_true]
  intro s hs
  simp [h s hs]
/-- == of two rows -/
def eqDs : List D → List D → Bool
  | [], [] => true
  | d :: a, e :: b => eqD d e && eqDs a b
  | _, _ => false
theorem eqvAll_pys : ∀ a b : List D, PyData.eqvAll (D.pys a) (D.pys b) = eqDs a b
  | [], [] => by simp [D.pys, PyData.eqvAll, eqDs]
  | [], _ :: _ => by simp [D.pys, PyData.eqvAll, eqDs]
  | _ :: _, [] => by simp [D.pys, PyData.eqvAll, eqDs]
  | d :: a, e :: b => by simp only [D.pys, PyData.eqvAll, eqDs, eqvAll_pys a b, eqD]
@[simp] theorem q_tup : eqD (.tup a) (.tup b) = eqDs a b := by simp only [eqD, D.py, PyData.eqv, eqvAll_pys]
@[simp] theorem q_lst : eqD (.lst a) (.lst b) = eqDs a b := by simp only [eqD, D.py, PyData.eqv, eqvAll_pys]
@[simp] theorem q_rol : eqD (.ro a) (.lst b) = eqDs a b := by simp only [eqD, D.py, PyData.eqv, eqvAll_pys]
@[simp] theorem q_lro : eqD (.lst a) (.ro b) = eqDs a b := by simp only [eqD, D.py, PyData.eqv, eqvAll_pys]
@[simp] theorem qs_nil : eqDs [] [] = true := rfl
@[simp] theorem qs_nc : eqDs [] (d :: b) = false := rfl
@[simp] theorem qs_cn : eqDs (d :: a) [] = false := rfl
@[simp] theorem qs_cons : eqDs (d :: a) (e :: b) = (eqD d e && eqDs a b) := rfl
theorem beqS (x y : Str) : (x == y) = decide (x = y) := by
  by_cases h : x = y
  · subst h; simp
  · rw [decide_eq_false h, beq_false_of_ne h]
theorem qs_strs : ∀ ss tt : List Str, eqDs (ss.map D.str) (tt.map D.str) = decide (ss = tt)
  | [], [] => by simp
  | [], _ :: _ => by simp
  | _ :: _, [] => by simp
  | s :: ss, t :: tt => by
    simp only [List.map_cons, qs_cons, q_str, qs_strs ss tt, List.cons.injEq, Bool.decide_and, beqS]
@[simp] theorem q_ns : eqD .non (.str x) = false := by simp [eqD, D.py, PyData.eqv]
@[simp] theorem q_sn : eqD (.str x) .non = false := by simp [eqD, D.py, PyData.eqv]
@[simp] theorem q_is : eqD (.int i) (.str x) = false := by simp [eqD, D.py, PyData.eqv]
@[simp] theorem q_si : eqD (.str x) (.int i) = false := by simp [eqD, D.py, PyData.eqv]
@[simp] theorem q_nn : eqD .non .non = true := by simp [eqD, D.py, PyData.eqv]
@[simp] theorem q_ni : eqD .non (.int i) = false := by simp [eqD, D.py, PyData.eqv]
@[simp] theorem q_in : eqD (.int i) .non = false := by simp [eqD, D.py, PyData.eqv]
@[simp] theorem q_bi : eqD (.bl p) (.int i) = ((if p then 1 else 0) == i) := by simp [eqD, D.py, PyData.eqv]
@[simp] theorem q_ib : eqD (.int i) (.bl p) = (i == (if p then 1 else 0)) := by simp [eqD, D.py, PyData.eqv]
@[simp] theorem q_ts : eqD (.tup a) (.str x) = false := by simp [eqD, D.py, PyData.eqv]
@[simp] theorem q_st : eqD (.str x) (.tup a) = false := by simp [eqD, D.py, PyData.eqv]
variable {st : Sto}
theorem in_tup : mIn p d (.tup l) st = if okD d && okD (.tup l) then some (.bl (if p then !l.any fun z => eqD z d else l.any fun z => eqD z d)) else none := by cases d <;> rfl
theorem in_lst : mIn p d (.lst l) st = if okD d && okD (.lst l) then some (.bl (if p then !l.any fun z => eqD z d else l.any fun z => eqD z d)) else none := by cases d <;> rfl
theorem in_ro : mIn p d (.ro l) st = if okD d && okD (.ro l) then some (.bl (if p then !l.any fun z => eqD z d else l.any fun z => eqD z d)) else none := by cases d <;> rfl
theorem any_strs {x : Str} : ∀ ss : List Str, ((ss.map D.str).any fun z => eqD z (.str x)) = decide (x ∈ ss)
  | [] => by simp
  | s :: ss => by
    rw [List.map_cons, List.any_cons, any_strs ss, q_str]
    simp only [List.mem_cons, Bool.decide_or, beqS]
    congr 1
    exact decide_eq_decide.mpr ⟨Eq.symm, Eq.symm⟩
@[simp] theorem i_non : mIs .non .non st = some (.bl true) := rfl
@[simp] theorem i_tn : mIs (.tup l) .non st = some (.bl false) := rfl
@[simp] theorem i_ln : mIs (.lst l) .non st = some (.bl false) := rfl
@[simp] theorem i_sn : mIs (.str x) .non st = some (.bl false) := rfl
@[simp] theorem i_in : mIs (.int i) .non st = some (.bl false) := rfl
@[simp] theorem i_bn : mIs (.bl p) .non st = some (.bl false) := rfl
@[simp] theorem i_rn : mIs (.ref n) .non st = some (.bl false) := rfl
end
section
variable {ρ : Env} {t : G Bool} {f : G D} {d e g : D} {ds : List D} {st : Sto} {n m k : Nat}
theorem k_t2 : compGo ρ (.tp [.nm n, .nm m]) t f (.tup [d, e] :: ds) st = (t ((ρ.set n (some d)).set m (some e)) st).nox.bind (kCo ρ (.tp [.nm n, .nm m]) t f ds ((ρ.set n (some d)).set m (some e))) := by
  simp only [compGo, Pat.set, Pats.set, List.length_cons, List.length_nil, if_true]
  rfl
theorem k_t3 : compGo ρ (.tp [.nm n, .nm m, .nm k]) t f (.tup [d, e, g] :: ds) st = (t (((ρ.set n (some d)).set m (some e)).set k (some g)) st).nox.bind (kCo ρ (.tp [.nm n, .nm m, .nm k]) t f ds (((ρ.set n (some d)).set m (some e)).set k (some g))) := by
  simp only [compGo, Pat.set, Pats.set, List.length_cons, List.length_nil, if_true]
  rfl
end
@[simp] theorem c_1n {d : D} {l : List D} {st : Sto} : mSl (.tup (d :: l)) (some 1) none st = some (.tup l) := by
  show some (D.tup _) = _
  congr 2
  unfold cutD
  rw [show HT.sIx (d :: l).length 0 (some 1) = 1 from by rw [show (1 : Int) = ((1 : Nat) : Int) from rfl, HT.sIx_nat]; simp, HT.sIx_none]
  simp
@[simp] theorem o_all {l : List D} {st : Sto} : mAll [.lst l] st = (bls l).map fun bs => .bl (bs.all id) := rfl
@[simp] theorem b_nil : bls [] = some [] := rfl
@[simp] theorem b_cons {b : Bool} {l : List D} : bls (.bl b :: l) = (bls l).map (b :: ·) := rfl
end DL

set_option Elab.async false
set_option linter.all false
set_option maxRecDepth 100000
set_option maxHeartbeats 2000000
/-! # A law's end: the script, what the text has written -/
namespace DL
open PySem PySem.Spec L2
open PyProof.Rows hiding St
def spL (K : PySem.W.Frag) (m : List D → Sto → Out D) : Sp := fun vs H Q _ => ∃ β ds st, Reps K β H vs ds ∧ StoOk K β H st ∧ vs.length = 1 ∧ (m ds st).sat (PostV K Q β H) (fun _ _ => False)
section
variable {P : Program} {w : World} {K : PySem.W.Frag} {mg : Str → Option Value} {base : Heap} {m : List D → Sto → Out D}
theorem spL.to {vs : List V} {H : Hp} {Q : VK} {E : XK} (h : spL K m vs H Q E) : spD K mg 1 m vs H Q E := by
  obtain ⟨β, ds, st, r, S, hl, q⟩ := h
  exact ⟨β, ds, st, r, S, hl, q.mono (fun _ _ z => z) fun _ _ z => z.elim⟩
theorem FnD.law {k : Nat} {f : Addr} {fd : FuncData} {x : Str} (F : FnD P w K mg base k f fd [x] m) : FnOk P w K mg base (L2.CX P w) k f fd [x] (spL K m) := FnOk.imp F fun _ _ _ _ h => h.to
theorem reps_ints {β : Bx} {H : Hp} : ∀ ns : List Int, Reps K β H (ns.map V.int) (ns.map D.int)
  | [] => .nil
  | n :: ns => .cons (.int n) (reps_ints ns)
theorem spL_of (e : ∀ ns : List Int, ∃ st, m [.ro (ns.map D.int)] [] = .ok (.bl true) st) {H : Hp} {a : Addr} {ns : List Int} (hl : ns.length ≤ 63) (O : Only H) (S : SqL K H a (ns.map V.int)) : spL K m [.ref a] H (fun v _ => v = .bl true) fun _ _ _ => False := by
  obtain ⟨st, h⟩ := e ns
  have SR : SqR K H a (ns.map V.int) := by
    rcases S with (h1 | h1) | h1
    · rcases O a with h2 | ⟨o, xs, h2⟩ <;> rw [h1] at h2 <;> cases h2
    · exact .inl h1
    · exact .inr h1
  refine ⟨⟨[], []⟩, [.ro (ns.map D.int)], [], .cons (.ro SR (reps_ints ns) (by rw [List.length_map]; exact Nat.le_trans hl (by decide))) .nil, ⟨rfl, List.nodup_nil, fun n a o h1 => by simp at h1, fun p hp => by cases hp⟩, rfl, ?_⟩
  rw [h]
  intro v β' H' _ _ r
  cases r
  rfl
theorem cx_no {H : Hp} {s : Shared} {e : Value} {s' : Shared} (h : L2.CX P w [] H s (fun _ _ _ => False) e s') : False := by
  obtain ⟨_, _, _, _, _, _, _, _, _, _, _, _, z⟩ := h
  exact z
/-- a table as it is written: its entries, what each is -/
inductive TabAt (K : PySem.W.Frag) : List DictEntry → List (Str × D) → Prop
  | nil : TabAt K [] []
  | cons {h : Int} {x : Str} {t : Tok} {u : Value} {v : V} {d : D} {es : List DictEntry} {tab : List (Str × D)} (r : RelV v u) (q : ∀ β H, Rep K β H v d) (z : TabAt K es tab) : TabAt K (⟨h, .str x t, u⟩ :: es) ((x, d) :: tab)
theorem tab_none : ∀ {es : List DictEntry} {tab : List (Str × D)}, TabAt K es tab → es.any (·.refKey) = false
  | _, _, .nil => rfl
  | _, _, .cons _ _ z => by
    rw [List.any_cons, tab_none z]
    rfl
theorem tab_find (z : Str) : ∀ {es : List DictEntry} {tab : List (Str × D)}, TabAt K es tab → match tab.lookup z with
    | some x => ∃ e v, es.find? (·.key.isStr z) = some e ∧ RelV v e.val ∧ ∀ β H, Rep K β H v x
    | none => es.find? (·.key.isStr z) = none
  | _, _, .nil => rfl
  | _, _, .cons (x := x) (t := t) (u := u) (v := v) (h := h) r q y => by
    rw [List.lookup_cons, List.find?_cons]
    by_cases e : x = z
    · subst e
      rw [beq_self_eq_true]
      have : (Value.str x t).isStr x = true := by
        show (x == x) = true
        exact beq_self_eq_true x
      simp only [this]
      exact ⟨_, v, rfl, r, q⟩
    · have e1 : (z == x) = false := beq_false_of_ne (Ne.symm e)
      have e2 : (Value.str x t).isStr z = false := by
        show (x == z) = false
        exact beq_false_of_ne e
      simp only [e1, e2]
      exact tab_find z y
theorem ktab_of {d : Addr} {c : Value} {dd : Option Addr} {es : Array DictEntry} {n : Nat} {sl : Array (Option Value)} {tab : List (Str × D)} (l : K.lookup d = some ⟨c, dd, .dict es n, sl⟩) (h : TabAt K es.toList tab) : KTab K d tab := by
  intro z
  have f := tab_find z h
  unfold PySem.W.nsIn
  rw [l]
  cases q : tab.lookup z with
  | some x =>
    rw [q] at f
    obtain ⟨e, v, h1, h2, h3⟩ := f
    simp only [h1]
    exact ⟨_, rfl, _, v, rfl, h2, h3⟩
  | none =>
    rw [q] at f
    simp only [show es.toList.find? (·.key.isStr z) = none from f, tab_none h]
    exact ⟨none, rfl, rfl⟩
/-- a tuple that the text has written -/
theorem rep_ktup {a : Addr} {dd : Option Addr} {its : Array Value} {n : Nat} {sl : Array (Option Value)} {xs : List V} {ds : List D} (l : K.lookup a = some ⟨.type "tuple", dd, .seq its n, sl⟩) (r : Vals xs its.toList) (q : ∀ β H, Reps K β H xs ds) (hl : ds.length ≤ 1000) (β : Bx) (H : Hp) : Rep K β H (.ref a) (.tup ds) := by
  have e1 : its.size = ds.length := by
    rw [← (q β H).length, r.length]
    simp
  exact .tup (.inr ⟨_, its, n, l, rfl, rfl, by rw [e1]; exact Nat.le_trans hl (by decide), r⟩) (q β H) (Nat.le_trans hl (by decide))
end
end DL

set_option Elab.async false
set_option linter.all false
set_option maxRecDepth 100000
set_option maxHeartbeats 2000000
/-! # Errors of one's own, a lambda handed to a def that tells what it raises -/
namespace DL
open PySem PySem.Spec L2
open PyProof.Rows hiding St
open LamX hiding takes0
/-! ### raise -/
def sRaise (c : Str) : G Fl := fun _ st => .exn ⟨c, none⟩ st
/-- an error's class of the text, over ValueError, without an __init__ of its own; B: the one that is caught -/
structure XC (K : PySem.W.Frag) (mg : Str → Option Value) (n : Str) (B : Addr) (a : Addr) : Prop where
  g : mg n = some (.ref a)
  ex : PySem.W.excIn K a [.type "ValueError", .type "Exception", .type "BaseException", .type "object"] "ValueError.__new__" = true
  kp : PySem.W.keepIn K (.ref a) = true
  b : PySem.W.subIn K (.ref a) (.type "BaseException") = some true
  t : PySem.W.typeIn K (.ref a) = some (.type "type")
  is : ExcC K a
  up : PySem.W.exmOne K (.ref a) (.ref B) = some true
section
variable {X : Cx} {W : WX} {B a : Addr}
theorem ds_raise {x m : Str} {j : Nat} {p p2 pos pos' : Pos} (hc : X.calm = true) (tk : Takes X W) (C : XC X.K X.mg x B a) (hg : Gl X x) (hdb : (x == ("__debug__" : Str)) = false := by decide) : DS X W (.Raise (some (.Call (.Name x p) [.Constant (.str m) j p2] [] pos)) none pos') (sRaise x) := by
  refine PSmono (ps_raise hc tk (pmk_own PySem.F.excBase_ValueError C.ex C.g C.kp (raises_own C.b C.t) hg hdb)) fun D' σ H h => ?_
  obtain ⟨β, ρ, st, hρ, hs, h⟩ := h
  exact h (.ref a) none σ β H (Ext.refl β H) hs ⟨C.g, rfl⟩
end
/-! ### what the clause gives back, by the error's class -/
def SE (Y : Cx) (i : Nat) (a : Addr) (e : Expr) (v : V) : Prop := PE Y e (fun σ H Q => σ[i]? = some (some (.ref a)) ∧ Q v H)
section
variable {Y : Cx} {i : Nat} {a D : Addr} {t u w : Expr} {v v' : V} {pos p p1 p2 : Pos} {b : Bool}
theorem se_str {x : Str} {j : Nat} : SE Y i a (.Constant (.str x) j pos) (.str x) := PEmono pe_str fun _ _ _ h => h.2
theorem se_is {e C : Str} {c : Addr} (hc : CallR Y (.builtin "isinstance") (rIsE Y.K D a)) (hN : Y.N[i]? = some e) (hv : Vis Y.env.scope e) (hg : Gl Y "isinstance") (hm : Y.mg "isinstance" = none) (hC : Gl Y C) (gC : Y.mg C = some (.ref c)) (hk : PySem.W.kitOne Y.K (.ref D) (.ref c) = some b)
    (hd : (e == ("__debug__" : Str)) = false := by decide) (hd2 : (e == ("__classdict__" : Str)) = false := by decide) (hd3 : (C == ("__debug__" : Str)) = false := by decide) :
    SE Y i a (.Call (.Name "isinstance" p) [.Name e p1, .Name C p2] [] pos) (.bl b) :=
  PEmono (pe_callB hc hg hm (by decide +kernel) (pa_cons (pe_var (i := i) hN hv hd hd2) (pa_cons (pe_glob hC gC (v := .ref c) rfl hd3) pa_nil))) fun σ H Q h =>
    ⟨.ref a, h.1, .ref c, .ref c, b, rfl, fun u r => r, hk, h.2⟩
theorem se_if (ht : SE Y i a t (.bl b)) (hu : b = true → SE Y i a u v) (hw : b = false → SE Y i a w v) (he : ∀ whole, isTrue t Y.env whole = (do let v ← whole; standAt t.pos; holding [v] (truthy v)) := by exact fun _ => rfl) : SE Y i a (.IfExp t u w pos) v := by
  refine ⟨fun pins s σ H Q I h => ?_⟩
  refine wpAny_IfExp (thn ((pt_truth ht he).run pins s σ H (fun k H' => k = b ∧ H' = H) I ⟨h.1, b, rfl, rfl, rfl⟩) fun d s1 ⟨H1, I1, q1⟩ => ?_)
  obtain ⟨rfl, rfl⟩ := q1
  cases d with
  | true => exact (hu rfl).run pins s1 σ _ Q I1 h
  | false => exact (hw rfl).run pins s1 σ _ Q I1 h
end
/-! ### try: work() except B as e: return .. / return .. -/
/-- what it makes of the lambda's reading: R: what an error's class is told as -/
def TTw (K : PySem.W.Frag) (CS : Addr) (R : Addr → V → Prop) (z : V) : (XK → Hp → VK → Prop) → Hp → VK → Prop := fun tl H Q =>
  tl (fun cls d H' => ∃ D v, cls = .ref D ∧ d = none ∧ R D v ∧ PySem.W.exmOne K cls (.ref CS) = some true ∧ Q v H') H fun _ H' => Q z H'
section
variable {X : Cx}
theorem wrong_gives {Ng : List Str} {x a e n q : Str} {sg : Scope} {g CS : Addr} {cdg : Value} {p1 p2 p3 p4 p6 p7 p8 p10 : Pos} {ret out : Expr} {z : V} {R : Addr → V → Prop}
    (hge : sg.names.lookup e = some .globalImplicit) (hme : X.mg e = some (.ref CS)) (hde : (e == ("__debug__" : Str)) = false) (h0 : ∀ f : Addr, (L2.start Ng [V.ref f])[0]? = some (some (V.ref f)))
    (hN : Ng.Nodup) (hi : Ng[1]? = some n) (hln : ∀ (A : Around) (s : Shared) (H : Hp), (cxOf C8.CX0 X.prog X.w X.K X.mg X.base Ng x sg g cdg A X.stack s H C8.E0).nox.env.kindOf n = some .local)
    (hout : ∀ (Y : Cx), PE Y out (tC z))
    (hret : ∀ (A : Around) (s : Shared) (H : Hp) (b D : Addr) (oe : Obj) (pn : List (Addr × Obj)) (v : V), Zc (.ref D) none oe → (∃ vs, oe.data = .fields vs) → R D v →
      SE ((cxOf C8.CX0 X.prog X.w X.K X.mg X.base Ng x sg g cdg A X.stack s H C8.E0).nox.suite b ((b, oe) :: pn)) 1 b ret v)
    (hsw : ∀ (env : PySem.Env), swapsWith (.Call (.Name a p1) [] [] p2) none p3.line env = pure false := by intro _; rfl) :
    GivesTo X Ng x sg g cdg [.Try [.Expr (.Call (.Name a p1) [] [] p2) p3] [.ExceptHandler (some (.Name e p4)) (some n) [.Return (some ret) p6] p7] [] [] p8, .Return (some out) p10] a q (TTw X.K CS R z) := by
  intro f c' s H Q tl act hc h
  have hgl : Gl (cxOf C8.CX0 X.prog X.w X.K X.mg X.base Ng x sg g cdg X.A X.stack s H C8.E0).nox e := hge
  let ts : Addr → Value → Option Addr → TS := fun b cls d D' σ H => ∃ D v, cls = .ref D ∧ d = none ∧ R D v ∧ (∃ σ' : L2.St, σ = List.set σ' 1 (some (.ref b))) ∧ D'.rt v H
  refine ⟨_, pss_cons (ps_try_as (X := (cxOf C8.CX0 X.prog X.w X.K X.mg X.base Ng x sg g cdg X.A X.stack s H C8.E0).nox) (c := .ref CS) (i := 1) (ts := ts)
      (tb := fun W D σ H => ∃ Ech : XK, (∀ cls d σ' H', Ech cls d H' → W cls d σ' H') ∧ σ[0]? = some (some (.ref f)) ∧ H c' = some (CodeO c' q) ∧ tl Ech H (fun _ H' => D.nx σ H'))
      rfl rfl hN hi (hln X.A s H) ⟨hgl, hde, .inl hme⟩ takes0 (fun W pn xe tk _ => ?_) (fun b oe cls d pn hz hd => ?_)) (pss_one (ps_ret (hout _))), ?_⟩
  · refine ⟨fun pins s' σ H' D I h' => ?_⟩
    obtain ⟨Ech, hW, h1, h2, h3⟩ := h'
    have hp := act W pn xe Ech p1 p2 tk hW
    have hq := pss_one (ps_expr (pos := p3) hp (hsw _))
    exact hq.run pins s' σ H' D I ⟨h1, h2, h3⟩
  · refine ⟨fun pins s' σ H' D' I h' => ?_⟩
    obtain ⟨D, v, rfl, rfl, hR, ⟨σ', hσ⟩, q⟩ := h'
    have hl : σ.length = Ng.length := I.len
    have h1 : σ[1]? = some (some (.ref b)) := by
      rw [hσ, List.length_set] at hl
      rw [hσ, List.getElem?_set_self (by rw [hl]; exact (List.getElem?_eq_some_iff.mp hi).1)]
    exact (pss_one (ps_ret (hret X.A s H b D oe pn v hz hd hR))).run pins s' σ H' D' I ⟨h1, q⟩
  · refine ⟨fun cls d H' => ∃ D v, cls = .ref D ∧ d = none ∧ R D v ∧ PySem.W.exmOne X.K cls (.ref CS) = some true ∧ Q v H', fun cls d σ' H' ⟨D, v, e1, e2, e3, e4, e5⟩ => ⟨true, e4, fun _ b _ => ⟨D, v, e1, e2, e3, ⟨σ', rfl⟩, e5⟩, fun hb => by cases hb⟩, h0 f, hc, h⟩
end
theorem ext_lam {β : Bx} {H H1 : Hp} (e : ExtN H H1) : Ext β H β H1 :=
  ⟨⟨[], by simp, by simp⟩, rfl, fun b o _ h n => e b o h n, fun b xs h => e b _ h (fun _ z => by cases z), fun b o u h => e b _ h (fun _ z => by cases z), fun b o h n => ⟨o, e b o h n, n⟩, fun c q h => e c _ h fun ps => codeO_ne ps⟩
theorem StoOk.lam {K : PySem.W.Frag} {β : Bx} {H H1 : Hp} {st : Sto} {P : Addr} {q : Str} (S : StoOk K β H st) (e : ExtN H H1) (t : Tabs [(P, q)] H1) (h0 : st[0]? = Option.some (.tab q)) (hP : tabAddr K = P) : StoOk K β H1 st := by
  have ex := ext_lam (β := β) e
  have hl : 0 < β.lo.length := by
    rw [S.len]
    exact (List.getElem?_eq_some_iff.mp h0).1
  obtain ⟨p0, hp0⟩ : ∃ p0, β.lo[0]? = Option.some p0 := ⟨_, List.getElem?_eq_getElem hl⟩
  obtain ⟨hp, _⟩ := S.obj 0 p0 _ hp0 h0
  refine ⟨S.len, S.nd, fun n a o h1 h2 => ?_, fun p hp => let ⟨u, hu, n⟩ := S.priv p hp; ⟨u, e _ _ hu n, n⟩⟩
  have r := S.obj n a o h1 h2
  cases o with
  | lst ds => obtain ⟨xs, h, r⟩ := r; exact ⟨xs, e _ _ h fun _ z => (by cases z), Reps.ext ex _ _ r⟩
  | dK kvs => obtain ⟨vs, h, l, k, r⟩ := r; exact ⟨vs, e _ _ h fun _ z => (by cases z), l, k, Reps.ext ex _ _ r⟩
  | tab q' =>
    have hn : n = 0 := by
      obtain ⟨z1, e1⟩ := List.getElem?_eq_some_iff.mp h1
      obtain ⟨z2, e2⟩ := List.getElem?_eq_some_iff.mp hp0
      exact (List.getElem_inj S.nd).mp (e1.trans (r.1.trans (hp.symm.trans e2.symm)))
    subst hn
    rw [h0] at h2
    cases h2
    refine ⟨r.1, ?_⟩
    rw [r.1, hP]
    exact t _ (List.mem_singleton.mpr rfl)
/-- work handed to the def that tells what it raises; tw: the errors' words, dz: if nothing is raised -/
def gWrong (q : Str) (tw : List (Str × D)) (dz : D) (gb : G D) : G D := fun ρ (st : Sto) => match st[0]? with
  | some (SO.tab q') => if q' = q then (match gb ρ st with
    | .ok _ s1 => .ok dz s1
    | .exn x s1 => (match x.fld, tw.lookup x.cls with
      | none, some d => .ok d s1
      | _, _ => .bad)
    | .bad => .bad) else .bad
  | _ => .bad
/-- the name of a lambda of the law's -/
def lawQ : Str := ("law" : Str) ++ (".<locals>." : Str)
def lamQ : Str := lawQ ++ ("<lambda>" : Str)
section
variable {X : Cx} {W : WX}
theorem de_wrong {x a : Str} {stg : Stmt} {g : Addr} {fdg : FuncData} {Ng : List Str} {CS : Addr} {R : Addr → V → Prop} {z : V} {c P : Addr} {k : Nat} {params : Arguments} {body : Expr} {scope : Scope} {p lpos pos : Pos} {tw : List (Str × D)} {dz : D} {gb : G D}
    (F : Fun X.K x x stg g fdg) (hb : L2.Binds X.K fdg [a] []) (Sg : FnScope Ng [a] (defScope stg)) (hNg : Ng[0]? = some a) (hva : Vis (defScope stg) a) (hg : Gl X x) (hm : X.mg x = some (.ref g))
    (hG : ∀ cdv, GivesTo X Ng x (defScope stg) g cdv (defBody stg) a (X.env.qual ++ "<lambda>") (TTw X.K CS R z))
    (TB : TabB X.base X.mg c P) (hcode : X.env.code = .ref c) (hP : tabAddr X.K = P) (hr : Room (k + 2) X.A) (L : LamS X.env.scope scope) (hdef : defaultsOf params X.env = ([], []))
    (hbind : ∀ (q : Str) (cl : List (Str × Addr)) (pm cv ctv : Value), bindArgs (PySem.W.kla_fn "<lambda>" q params body scope cl pm cv ctv) ⟨[], []⟩ = pure [])
    (ht : ∀ n d, tw.lookup n = some d → ∃ D v, X.mg n = some (.ref D) ∧ (∀ β H, Rep X.K β H v d) ∧ R D v ∧ PySem.W.exmOne X.K (.ref D) (.ref CS) = some true) (hz : ∀ β H, Rep X.K β H z dz)
    (hq : X.env.qual = lawQ)
    (hbody : ∀ (A : Around) (outer : List PySem.Env) (s : Shared) (H : Hp) (E : XK) (f c' : Addr), Room k (A.deeper (lamEnv X scope s.heap.objs.size f c')) → DE (lamCx X A outer s H E scope f c') (WE' E) body gb)
    (hdb : (x == ("__debug__" : Str)) = false := by decide) (hd : (a == ("__debug__" : Str)) = false := by decide) (hcd : (a == ("__classdict__" : Str)) = false := by decide) :
    DE X W (.Call (.Name x p) [.Lambda params body scope lpos] [] pos) (gWrong lamQ tw dz gb) := by
  have eq : X.env.qual ++ ("<lambda>" : Str) = lamQ := by
    rw [hq]
    rfl
  rw [eq] at hG
  obtain ⟨oc, od, kV, doc, pm, an, cdv, ct, osl, rfl, lk, hcg⟩ := F.ex
  refine PEmono (pe_lamcall (T := [(P, lamQ)]) (t := fun E => tD X.K X.mg (WE' E) gb) hg hm F.kp lk hcg hb Sg hNg hva (by rw [eq]; exact hG cdv) TB hcode (by rw [eq]; exact List.mem_singleton.mpr rfl) (fun p hp _ => by rw [List.mem_singleton.mp hp, eq]) hr L hdef hbind (fun A outer s H E f c' h => hbody A outer s H E f c' h) hdb hd hcd) fun σ H Q h => ?_
  obtain ⟨β, ρ, st, hρ, hs, h⟩ := h
  unfold gWrong at h
  split at h
  · rename_i q' h0
    split at h
    · rename_i hq
      subst hq
      have hl : 0 < β.lo.length := by
        rw [hs.len]
        exact (List.getElem?_eq_some_iff.mp h0).1
      obtain ⟨p0, hp0⟩ : ∃ p0, β.lo[0]? = some p0 := ⟨_, List.getElem?_eq_getElem hl⟩
      obtain ⟨hpa, htab⟩ := hs.obj 0 p0 _ hp0 h0
      rw [hpa, hP] at htab
      refine ⟨fun y hy => by rw [List.mem_singleton.mp hy]; exact htab, fun H1 eN T1 => ?_⟩
      have ex := ext_lam (β := β) eN
      refine ⟨β, ρ, st, hρ.ext ex, hs.lam eN T1 h0 hP, ?_⟩
      cases e : gb ρ st with
      | bad => rw [e] at h; exact h.elim
      | ok d s1 =>
        rw [e] at h
        exact fun v β' H' e' S' r' => h z β' H' (ex.trans e') S' (hz _ _)
      | exn y s1 =>
        rw [e] at h
        refine fun cls dd β' H' e' S' xr => ?_
        have h : Out.sat (match y.fld, tw.lookup y.cls with
          | none, some d => Out.ok d s1
          | _, _ => Out.bad) (PostV X.K Q β H) _ := h
        split at h
        · rename_i d hf hd'
          obtain ⟨D, v, g1, g2, g3, g4⟩ := ht _ _ hd'
          obtain ⟨m1, m2⟩ := xr
          rw [g1] at m1
          cases m1
          rw [hf] at m2
          exact ⟨D, v, rfl, m2, g3, g4, h v β' H' (ex.trans e') S' (g2 _ _)⟩
        · exact h.elim
    · exact h.elim
  · exact h.elim
end
end DL

set_option Elab.async false
set_option linter.all false
set_option maxRecDepth 100000
set_option maxHeartbeats 2000000
/-! # A written table that is looked up on the spot; a tuple many times over -/
namespace DL
open PySem PySem.Spec L2
open PyProof.Rows hiding St
open LamX hiding takes0
def gTabIx (tab : List (Str × Str)) (f : G D) : G D := fun ρ st => (f ρ st).bind fun d s1 => match d with
  | .str z => oout ((tab.lookup z).map D.str) s1
  | _ => .bad
def keyOfS (p : Str × Str) : Key × V := (.inr p.1, .str p.2)
theorem valV_tab (z : Str) : ∀ tab : List (Str × Str), valV (tab.map keyOfS) (.inr z : Key) = (tab.lookup z).map V.str
  | [] => rfl
  | (a, b) :: tab => by
    have ih := valV_tab z tab
    rw [List.map_cons, List.lookup_cons]
    by_cases e : a = z
    · subst e
      rw [valV_pos (p := keyOfS (a, b)) (k := (.inr a : Key)) rfl, beq_self_eq_true]
      rfl
    · rw [show (z == a) = false from beq_false_of_ne (Ne.symm e)]
      unfold valV at ih ⊢
      rw [List.find?_cons]
      rw [show decide ((keyOfS (a, b)).1 = (.inr z : Key)) = false from decide_eq_false fun q => e (Sum.inr.inj q)]
      exact ih
def tabExprs : List (Str × Str) → List (Nat × Pos × Nat × Pos) → List (Option Expr) × List Expr
  | (a, b) :: t, (i, p, j, q) :: r => let x := tabExprs t r; (some (.Constant (.str a) i p) :: x.1, .Constant (.str b) j q :: x.2)
  | _, _ => ([], [])
def tabTrs : List (Str × Str) → List (TE × TE)
  | [] => []
  | (a, b) :: t => (tC (.str a), tC (.str b)) :: tabTrs t
section
variable {X : Cx} {W : WX} {pos pos2 : Pos} {e : Expr} {f : G D} {k : Nat}
theorem pps_str {a b : Str} {i j : Nat} {p q : Pos} {ks : List (Option Expr)} {vs : List Expr} {t : List (Str × Str)} (h : PPs X pos ks vs (tabTrs t)) : PPs X pos (some (.Constant (.str a) i p) :: ks) (.Constant (.str b) j q :: vs) (tabTrs ((a, b) :: t)) := pps_cons pe_str pe_str h
theorem tabPairs : ∀ (t : List (Str × Str)) (σ : St) (H : Hp) (Q : List (V × V) → Hp → Prop), Q (t.map fun p => (V.str p.1, V.str p.2)) H → tPairs (tabTrs t) σ H Q
  | [], _, _, _, q => q
  | (a, b) :: t, σ, H, Q, q => tabPairs t σ H _ q
theorem de_tabIx {tab : List (Str × Str)} {ks : List (Option Expr)} {vs : List Expr} (hr : Room k X.A) (h : PPs X pos ks vs (tabTrs tab)) (hm : mergeK [] (tab.map keyOfS) = tab.map keyOfS) (h15 : tab.length ≤ 15) (he : DE X W e f)
    (hall : ks.all (·.isSome) = true := by rfl) (hl : ks.length = vs.length := by rfl) (h0 : ks ≠ [] := by exact fun z => by cases z) (hk15 : ks.length ≤ 15 := by decide) (hs : NoSl e := by exact fun _ _ => rfl) :
    DE X W (.Subscript (.Dict ks vs pos) e pos2) (gTabIx tab f) := by
  refine PEmono (pe_dget (hu_of hr) (pe_disp h hall hl h0 hk15) he hs) fun σ H Q h => ?_
  obtain ⟨β, ρ, st, hρ, hst, h⟩ := h
  intro p hp
  refine tabPairs tab σ _ _ ⟨upd_same, tab.map keyOfS, ?_, by rw [List.length_map]; exact h15, ?_⟩
  · rw [List.map_map]
    exact List.map_congr_left fun x _ => rfl
  rw [hm]
  have e0 : upd (upd H p (.dK [])) p (.dK (tab.map keyOfS)) = upd H p (.dK (tab.map keyOfS)) := by
    funext b
    by_cases hb : b = p
    · rw [hb, upd_same, upd_same]
    · rw [upd_ne hb, upd_ne hb, upd_ne hb]
  rw [e0]
  have ex : Ext β H β (upd H p (.dK (tab.map keyOfS))) := Ext.new hp
  refine tD_intro (hρ.ext ex) (hst.fresh hp) ((Out.sat_bind h).mono (fun d s1 q => q) fun _ _ q => q.ext ex) (fun d s1 h1 v β1 H1 e1 S1 r1 => ?_) fun _ _ q => q
  split at h1
  · rename_i z
    cases r1
    obtain ⟨d3, q, p3⟩ := oout_sat h1
    cases hz : tab.lookup z with
    | none => rw [hz] at q; cases q
    | some y =>
      rw [hz] at q
      cases q
      have hd : H1 p = some (.dK (tab.map keyOfS)) := e1.keep _ _ (hst.nmem hp).1 upd_same fun _ z => by cases z
      refine ⟨p, .str y, rfl, ?_, p3 (.str y) β1 H1 (ex.trans e1) S1 (.str y)⟩
      have := DGet.k (kvs := tab.map keyOfS) (k := (.inr z : Key)) hd
      rw [valV_tab, hz] at this
      exact this
  · exact h1.elim
end
/-! ### xs * k of a tuple -/
def mRep : D → D → Sto → Option D
  | .tup l, .int k, _ => if l ≠ [] ∧ 2 ≤ k ∧ k ≤ 1000 ∧ l.length ≤ 1000 then some (.tup (List.replicate k.toNat l).flatten) else none
  | _, _, _ => none
theorem Reps.rep {K : PySem.W.Frag} {β : Bx} {H : Hp} {xs : List V} {l : List D} (r : Reps K β H xs l) : ∀ n, Reps K β H (List.replicate n xs).flatten (List.replicate n l).flatten
  | 0 => .nil
  | n + 1 => by
    rw [List.replicate_succ, List.replicate_succ, List.flatten_cons, List.flatten_cons]
    exact r.append (Reps.rep r n)
theorem Reps.repLen {l : List D} : ∀ n, (List.replicate n l).flatten.length = n * l.length
  | 0 => by simp
  | n + 1 => by
    rw [List.replicate_succ, List.flatten_cons, List.length_append, Reps.repLen n, Nat.succ_mul]
    omega
theorem od_rep {K : PySem.W.Frag} : OpD K (rRepT K) mRep := by
  intro β H st x y dx dy d Q rx ry S e q
  cases dx <;> cases dy <;> simp only [mRep, reduceCtorEq] at e
  case tup.int l k =>
    split at e
    · rename_i hz
      obtain ⟨h0, h1, h2, h3⟩ := hz
      have e := Option.some.inj e
      subst e
      cases ry
      cases rx with
      | tup hT r hl =>
        refine ⟨_, k, _, rfl, rfl, hT, ?_, h1, h2, by rw [r.length]; exact h3, fun p hp => ?_⟩
        · intro z
          subst z
          cases r
          exact h0 rfl
        · refine q _ _ (same_new hp) (.tup (.inl (.inl upd_same)) ((Reps.ext (Ext.new hp) _ _ r).rep _) ?_)
          rw [Reps.repLen]
          have : k.toNat ≤ 1000 := by omega
          exact Nat.le_trans (Nat.mul_le_mul this h3) (by rw [sizeLine_eq]; decide)
    · cases e
/-! ### a def whose code object's table is known: lambdas are made in it -/
structure LawT (K : PySem.W.Frag) (mg : Str → Option Value) (base : Heap) (st : Stmt) (f : Addr) (fd : FuncData) where
  c : Addr
  ex : ∃ (oc : Value) (od : Option Addr) (kV doc pm : Value) (an : Option Addr) (ct : Value) (osl : Array (Option Value)),
    fd = PySem.W.fnOf "law" "law" (defArgs st) (defBody st) (defScope st) .none kV doc pm an (.ref c) ct ∧ K.lookup f = some ⟨oc, od, .func fd, osl⟩ ∧ PySem.W.codeIn K (.ref c) "law" = true
  tb : TabB base mg c (tabAddr K)
section
variable {P : Program} {w : World} {K : PySem.W.Frag} {mg : Str → Option Value} {base : Heap}
theorem fnD_ofC {st : Stmt} {f : Addr} {fd : FuncData} {N ps : List Str} {k : Nat} {g : G Fl} (F : LawT K mg base st f fd) (S : FnScope N ps (defScope st))
    (hb : ∀ (A : Around) (outer : List PySem.Env) (s : Shared) (H : Hp) (E : XK), Room k (A.deeper (envOfC "law" (defScope st) s.heap.objs.size f (.ref F.c))) →
      DSs (cxOf (L2.CX P w) P w K mg base N "law" (defScope st) f (.ref F.c) A outer s H E) (WE' E) (defBody st) g) : FnD P w K mg base (k + 1) f fd ps (gFun N.length g) := by
  obtain ⟨c, ⟨oc, od, kV, doc, pm, an, ct, osl, rfl, lk, hcd⟩, tb⟩ := F
  refine fn_of lk hcd S (fun vs H Q E h => ?_) (fun A outer s H vs Q E hr h => ?_)
  · obtain ⟨β, ds, st, r, S, hl, h⟩ := h
    exact hl
  · obtain ⟨β, ds, st, r, S, hl, h⟩ := h
    refine ⟨_, hb A outer s H E hr, β, _, st, start_env r, S, (Out.sat_bind h).mono (fun r s1 q => ?_) fun _ _ q => fun c d σ β' H' e S r => q c d β' H' e S r⟩
    cases r with
    | nx ρ => exact fun σ β' H' e S r => q .non β' H' e S .non
    | rt d => exact q
    | bk ρ => exact q.elim
    | ct ρ => exact q.elim
end
/-! ### the law's end with its own table -/
section
variable {P : Program} {w : World} {K : PySem.W.Frag} {mg : Str → Option Value} {base : Heap} {m : List D → Sto → Out D}
theorem spL_ofT {q : Str} (e : ∀ (ns : List Int) (sc : D), sc = .ro (ns.map D.int) ∨ sc = .lst (ns.map D.int) → ∃ st, m [sc] [.tab q] = .ok (.bl true) st) {H : Hp} {a : Addr} {ns : List Int} (hl : ns.length ≤ 63) (hT : H (tabAddr K) = some (.tbl #[])) (S : SqL K H a (ns.map V.int)) : spL K m [.ref a] H (fun v _ => v = .bl true) fun _ _ _ => False := by
  have hz : (ns.map D.int).length ≤ sizeLine := by
    rw [List.length_map]
    exact Nat.le_trans hl (by decide)
  obtain ⟨sc, hsc, r⟩ : ∃ sc, (sc = .ro (ns.map D.int) ∨ sc = .lst (ns.map D.int)) ∧ Rep K ⟨[tabAddr K], []⟩ H (.ref a) sc := by
    rcases S with (h1 | h1) | h1
    · refine ⟨_, .inr rfl, .lst h1 ⟨fun z => ?_, fun z => by cases z⟩ (reps_ints ns) hz⟩
      rw [List.mem_singleton.mp z, hT] at h1
      cases h1
    · exact ⟨_, .inl rfl, .ro (.inl h1) (reps_ints ns) hz⟩
    · exact ⟨_, .inl rfl, .ro (.inr h1) (reps_ints ns) hz⟩
  obtain ⟨st, h⟩ := e ns sc hsc
  refine ⟨⟨[tabAddr K], []⟩, [sc], [.tab q], .cons r .nil, ⟨rfl, by simp, fun n a o h1 h2 => ?_, fun p hp => by cases hp⟩, rfl, ?_⟩
  · cases n with
    | zero =>
      cases h1
      cases h2
      exact ⟨rfl, TabS.nil hT⟩
    | succ n => simp at h2
  · rw [h]
    intro v β' H' _ _ r
    cases r
    rfl
end
end DL

set_option Elab.async false
set_option linter.all false
set_option maxRecDepth 100000
set_option maxHeartbeats 2000000
namespace K04
open PySem PySem.Spec L2 DL
open PyProof.Rows hiding St
open LamX hiding takes0
def topS (i : Nat) : Stmt := PySem.Challenge.pw_pairskept_k04_whole_pairs.main.body.getD i (.Pass ⟨0, 0, 0, 0⟩)
abbrev s__law_alike : Stmt := topS 33
abbrev N__law_alike : List Str := ["found", "due", "k"]
theorem sc__law_alike : FnScope N__law_alike ["found", "due"] (defScope s__law_alike) := ⟨rfl, rfl, rfl, by decide +kernel, rfl, by decide +kernel, by decide +kernel⟩
abbrev s__law_taken : Stmt := topS 31
abbrev N__law_taken : List Str := ["row", "many", "found", "cell"]
theorem sc__law_taken : FnScope N__law_taken ["row", "many"] (defScope s__law_taken) := ⟨rfl, rfl, rfl, by decide +kernel, rfl, by decide +kernel, by decide +kernel⟩
abbrev s__law_design : Stmt := topS 35
abbrev N__law_design : List Str := ["row", "word"]
theorem sc__law_design : FnScope N__law_design ["row"] (defScope s__law_design) := ⟨rfl, rfl, rfl, by decide +kernel, rfl, by decide +kernel, by decide +kernel⟩
abbrev s__law_pick : Stmt := topS 32
abbrev N__law_pick : List Str := ["row", "kinds"]
theorem sc__law_pick : FnScope N__law_pick ["row", "kinds"] (defScope s__law_pick) := ⟨rfl, rfl, rfl, by decide +kernel, rfl, by decide +kernel, by decide +kernel⟩
abbrev s__law_instruction : Stmt := topS 34
abbrev N__law_instruction : List Str := ["row", "kind"]
theorem sc__law_instruction : FnScope N__law_instruction ["row"] (defScope s__law_instruction) := ⟨rfl, rfl, rfl, by decide +kernel, rfl, by decide +kernel, by decide +kernel⟩
abbrev s__law_cell : Stmt := topS 37
abbrev N__law_cell : List Str := ["one"]
theorem sc__law_cell : FnScope N__law_cell ["one"] (defScope s__law_cell) := ⟨rfl, rfl, rfl, by decide +kernel, rfl, by decide +kernel, by decide +kernel⟩
abbrev s__law_last : Stmt := topS 38
abbrev N__law_last : List Str := ["core", "place", "kinds", "spot", "name", "k"]
theorem sc__law_last : FnScope N__law_last ["core", "place", "kinds", "spot", "name"] (defScope s__law_last) := ⟨rfl, rfl, rfl, by decide +kernel, rfl, by decide +kernel, by decide +kernel⟩
abbrev s__law_letter : Stmt := topS 36
abbrev N__law_letter : List Str := ["one"]
theorem sc__law_letter : FnScope N__law_letter ["one"] (defScope s__law_letter) := ⟨rfl, rfl, rfl, by decide +kernel, rfl, by decide +kernel, by decide +kernel⟩
abbrev s__law_must : Stmt := topS 39
abbrev N__law_must : List Str := ["design", "core", "i", "j", "one", "other", "pair", "k"]
theorem sc__law_must : FnScope N__law_must ["design", "core", "i", "j"] (defScope s__law_must) := ⟨rfl, rfl, rfl, by decide +kernel, rfl, by decide +kernel, by decide +kernel⟩
abbrev s_is_number : Stmt := topS 8
abbrev N_is_number : List Str := ["value", "greatest"]
theorem sc_is_number : FnScope N_is_number ["value", "greatest"] (defScope s_is_number) := ⟨rfl, rfl, rfl, by decide +kernel, rfl, by decide +kernel, by decide +kernel⟩
abbrev s_is_instruction : Stmt := topS 9
abbrev N_is_instruction : List Str := ["value", "limits", "number", "limit"]
theorem sc_is_instruction : FnScope N_is_instruction ["value"] (defScope s_is_instruction) := ⟨rfl, rfl, rfl, by decide +kernel, rfl, by decide +kernel, by decide +kernel⟩
abbrev s_is_core : Stmt := topS 10
abbrev N_is_core : List Str := ["value", "item"]
theorem sc_is_core : FnScope N_is_core ["value"] (defScope s_is_core) := ⟨rfl, rfl, rfl, by decide +kernel, rfl, by decide +kernel, by decide +kernel⟩
abbrev s_check_core : Stmt := topS 11
abbrev N_check_core : List Str := ["value"]
theorem sc_check_core : FnScope N_check_core ["value"] (defScope s_check_core) := ⟨rfl, rfl, rfl, by decide +kernel, rfl, by decide +kernel, by decide +kernel⟩
abbrev s_is_design : Stmt := topS 20
abbrev N_is_design : List Str := ["value", "word"]
theorem sc_is_design : FnScope N_is_design ["value"] (defScope s_is_design) := ⟨rfl, rfl, rfl, by decide +kernel, rfl, by decide +kernel, by decide +kernel⟩
abbrev s_check_design : Stmt := topS 21
abbrev N_check_design : List Str := ["value"]
theorem sc_check_design : FnScope N_check_design ["value"] (defScope s_check_design) := ⟨rfl, rfl, rfl, by decide +kernel, rfl, by decide +kernel, by decide +kernel⟩
abbrev s_check_places : Stmt := topS 24
abbrev N_check_places : List Str := ["core", "first", "second", "last"]
theorem sc_check_places : FnScope N_check_places ["core", "first", "second"] (defScope s_check_places) := ⟨rfl, rfl, rfl, by decide +kernel, rfl, by decide +kernel, by decide +kernel⟩
abbrev s_is_reading : Stmt := topS 12
abbrev N_is_reading : List Str := ["instruction"]
theorem sc_is_reading : FnScope N_is_reading ["instruction"] (defScope s_is_reading) := ⟨rfl, rfl, rfl, by decide +kernel, rfl, by decide +kernel, by decide +kernel⟩
abbrev s_is_writing : Stmt := topS 13
abbrev N_is_writing : List Str := ["instruction"]
theorem sc_is_writing : FnScope N_is_writing ["instruction"] (defScope s_is_writing) := ⟨rfl, rfl, rfl, by decide +kernel, rfl, by decide +kernel, by decide +kernel⟩
abbrev s_cell_of : Stmt := topS 14
abbrev N_cell_of : List Str := ["instruction"]
theorem sc_cell_of : FnScope N_cell_of ["instruction"] (defScope s_cell_of) := ⟨rfl, rfl, rfl, by decide +kernel, rfl, by decide +kernel, by decide +kernel⟩
abbrev s_is_kept_behind_guard : Stmt := topS 26
abbrev N_is_kept_behind_guard : List Str := ["design", "later"]
theorem sc_is_kept_behind_guard : FnScope N_is_kept_behind_guard ["design", "later"] (defScope s_is_kept_behind_guard) := ⟨rfl, rfl, rfl, by decide +kernel, rfl, by decide +kernel, by decide +kernel⟩
abbrev s_is_kept_on_cell : Stmt := topS 27
abbrev N_is_kept_on_cell : List Str := ["design", "earlier", "later"]
theorem sc_is_kept_on_cell : FnScope N_is_kept_on_cell ["design", "earlier", "later"] (defScope s_is_kept_on_cell) := ⟨rfl, rfl, rfl, by decide +kernel, rfl, by decide +kernel, by decide +kernel⟩
abbrev s_kind_of : Stmt := topS 28
abbrev N_kind_of : List Str := ["instruction"]
theorem sc_kind_of : FnScope N_kind_of ["instruction"] (defScope s_kind_of) := ⟨rfl, rfl, rfl, by decide +kernel, rfl, by decide +kernel, by decide +kernel⟩
abbrev s_last_read : Stmt := topS 16
abbrev N_last_read : List Str := ["core", "number", "place", "found", "at"]
theorem sc_last_read : FnScope N_last_read ["core", "number", "place"] (defScope s_last_read) := ⟨rfl, rfl, rfl, by decide +kernel, rfl, by decide +kernel, by decide +kernel⟩
abbrev s_used_by : Stmt := topS 15
abbrev N_used_by : List Str := ["instruction"]
theorem sc_used_by : FnScope N_used_by ["instruction"] (defScope s_used_by) := ⟨rfl, rfl, rfl, by decide +kernel, rfl, by decide +kernel, by decide +kernel⟩
abbrev s_is_kept : Stmt := topS 25
abbrev N_is_kept : List Str := ["design", "core", "first", "second", "earlier", "later"]
theorem sc_is_kept : FnScope N_is_kept ["design", "core", "first", "second"] (defScope s_is_kept) := ⟨rfl, rfl, rfl, by decide +kernel, rfl, by decide +kernel, by decide +kernel⟩
abbrev s_last_writing : Stmt := topS 17
abbrev N_last_writing : List Str := ["core", "cell", "place", "found", "at"]
theorem sc_last_writing : FnScope N_last_writing ["core", "cell", "place"] (defScope s_last_writing) := ⟨rfl, rfl, rfl, by decide +kernel, rfl, by decide +kernel, by decide +kernel⟩
abbrev s_waits_for_copied : Stmt := topS 29
abbrev N_waits_for_copied : List Str := ["design", "core", "first", "second", "source"]
theorem sc_waits_for_copied : FnScope N_waits_for_copied ["design", "core", "first", "second"] (defScope s_waits_for_copied) := ⟨rfl, rfl, rfl, by decide +kernel, rfl, by decide +kernel, by decide +kernel⟩
abbrev s_must_wait : Stmt := topS 23
abbrev N_must_wait : List Str := ["design", "core", "first", "second"]
theorem sc_must_wait : FnScope N_must_wait ["design", "core", "first", "second"] (defScope s_must_wait) := ⟨rfl, rfl, rfl, by decide +kernel, rfl, by decide +kernel, by decide +kernel⟩
abbrev s_must_be_done : Stmt := topS 22
abbrev N_must_be_done : List Str := ["design", "core", "first", "second"]
theorem sc_must_be_done : FnScope N_must_be_done ["design", "core", "first", "second"] (defScope s_must_be_done) := ⟨rfl, rfl, rfl, by decide +kernel, rfl, by decide +kernel, by decide +kernel⟩
abbrev s__law_wrong : Stmt := topS 40
abbrev N__law_wrong : List Str := ["work", "e"]
theorem sc__law_wrong : FnScope N__law_wrong ["work"] (defScope s__law_wrong) := ⟨rfl, rfl, rfl, by decide +kernel, rfl, by decide +kernel, by decide +kernel⟩
abbrev s_law : Stmt := topS 41
abbrev N_law : List Str := ["script", "row", "design", "core", "j", "i", "bad", "odd", "first", "second", "turn"]
theorem sc_law : FnScope N_law ["script"] (defScope s_law) := ⟨rfl, rfl, rfl, by decide +kernel, rfl, by decide +kernel, by decide +kernel⟩
def c_WORDS : D := .tup [.str "gr", .str "gw", .str "own", .str "rr", .str "rw", .str "ss", .str "wr", .str "ww"]
def t_GREATEST : List (Str × D) := [("read", .tup [.int 1, .int 2]), ("write", .tup [.int 2, .int 9]), ("copy", .tup [.int 2, .int 1]), ("fence", .tup []), ("guard", .tup [.int 1, .int 9])]
def wr_tab : List (Str × D) := [("BadCore", .str "core"), ("BadPlace", .str "place"), ("BadDesign", .str "design")]
def g__law_alike : G Fl :=
  (sSeq (sIf (gTr (gCB mIsiT (aCons (gVar 1) (aCons (gTupD (aCons (gC (.raw (.ty "tuple"))) (aCons (gC (.raw (.ty "list"))) aNil))) aNil)))) sBad sNext) (sSeq (sIf (gTOr (gBl (gOp mIs (gVar 1) (gC .non))) (gTr (gCB mIsi (aCons (gVar 1) (aCons (gC (.raw (.ty "str"))) aNil))))) (sRet (gAnd (gOp mEq (gVar 0) (gVar 1)) (gOp mEq (gCB mIsi (aCons (gVar 0) (aCons (gC (.raw (.ty "str"))) aNil))) (gCB mIsi (aCons (gVar 1) (aCons (gC (.raw (.ty "str"))) aNil)))))) sNext) (sRet (gAnd (gCB mIsi (aCons (gVar 0) (aCons (gC (.raw (.ty "int"))) aNil))) (gAnd (gOp mEq (gCB mIsi (aCons (gVar 0) (aCons (gC (.raw (.ty "bool"))) aNil))) (gCB mIsi (aCons (gVar 1) (aCons (gC (.raw (.ty "bool"))) aNil)))) (gOp mEq (gVar 0) (gVar 1)))))))
def m__law_alike : List D → Sto → Out D := gFun 3 g__law_alike
def g__law_taken : G Fl :=
  (sSeq (sIf (gBl (gOp mGt (gOp mIx (gVar 0) (gC (.int 3))) (gC (.int 0)))) (sSeq (sSet 2 (gOp mMod (gCB mInt (aCons (gOp mIx (gVar 0) (gC (.int 3))) aNil)) (gVar 1))) (sSeq (sPut (gVar 0) (gC (.int 3)) (gOp mFdiv (gOp mIx (gVar 0) (gC (.int 3))) (gVar 1))) (sRet (gVar 2)))) sNext) (sSeq (sPut (gVar 0) (gC (.int 1)) (gOp mAdd (gOp mIx (gVar 0) (gC (.int 1))) (gC (.int 1)))) (sSeq (sIf (gBl (gOp mGt (gOp mIx (gVar 0) (gC (.int 1))) (gCB mLen (aCons (gOp mIx (gVar 0) (gC (.int 0))) aNil)))) (sSeq (sPut (gVar 0) (gC (.int 2)) (gOp mMod (gCB mInt (aCons (gOp mAdd (gOp mMul (gOp mIx (gVar 0) (gC (.int 2))) (gC (.int 48271))) (gC (.int 11))) aNil)) (gC (.int 2147483647)))) (sRet (gOp mMod (gCB mInt (aCons (gOp mFdiv (gOp mIx (gVar 0) (gC (.int 2))) (gC (.int 7))) aNil)) (gVar 1)))) sNext) (sSeq (sSet 3 (gOp mIx (gOp mIx (gVar 0) (gC (.int 0))) (gOp mSub (gOp mIx (gVar 0) (gC (.int 1))) (gC (.int 1))))) (sSeq (sPut (gVar 0) (gC (.int 2)) (gOp mMod (gCB mInt (aCons (gOp mAdd (gOp mAdd (gOp mMul (gOp mIx (gVar 0) (gC (.int 2))) (gC (.int 48271))) (gVar 3)) (gC (.int 11))) aNil)) (gC (.int 2147483647)))) (sSeq (sIf (gBl (gOp mGe (gVar 3) (gOp mPow (gC (.int 10)) (gC (.int 18))))) (sPut (gVar 0) (gC (.int 3)) (gOp mFdiv (gVar 3) (gVar 1))) sNext) (sRet (gOp mMod (gCB mInt (aCons (gVar 3) aNil)) (gVar 1)))))))))
def m__law_taken : List D → Sto → Out D := gFun 4 g__law_taken
def g__law_design : G Fl :=
  (sRet (gCB mTuple (aCons (gComp [1] (gSeq (gLstD (aCons (gC (.str "gr")) (aCons (gC (.str "gw")) (aCons (gC (.str "own")) (aCons (gC (.str "rr")) (aCons (gC (.str "rw")) (aCons (gC (.str "ss")) (aCons (gC (.str "wr")) (aCons (gC (.str "ww")) aNil)))))))))) (.nm 1) (gBl (gOp mEq (gCall m__law_taken (aCons (gVar 0) (aCons (gC (.int 2)) aNil))) (gC (.int 0)))) (gVar 1)) aNil)))
def m__law_design : List D → Sto → Out D := gFun 2 g__law_design
def g__law_pick : G Fl :=
  (sRet (gOp mIx (gVar 1) (gCall m__law_taken (aCons (gVar 0) (aCons (gCB mLen (aCons (gVar 1) aNil)) aNil)))))
def m__law_pick : List D → Sto → Out D := gFun 2 g__law_pick
def g__law_instruction : G Fl :=
  (sSeq (sSet 1 (gCall m__law_pick (aCons (gVar 0) (aCons (gLstD (aCons (gC (.str "read")) (aCons (gC (.str "read")) (aCons (gC (.str "read")) (aCons (gC (.str "write")) (aCons (gC (.str "write")) (aCons (gC (.str "write")) (aCons (gC (.str "copy")) (aCons (gC (.str "fence")) (aCons (gC (.str "guard")) aNil)))))))))) aNil)))) (sSeq (sIf (gBl (gOp mEq (gVar 1) (gC (.str "fence")))) (sRet (gTupD (aCons (gC (.str "fence")) aNil))) sNext) (sSeq (sIf (gBl (gOp mEq (gVar 1) (gC (.str "write")))) (sRet (gTupD (aCons (gC (.str "write")) (aCons (gCall m__law_taken (aCons (gVar 0) (aCons (gC (.int 2)) aNil))) (aCons (gOp mAdd (gC (.int 1)) (gCall m__law_taken (aCons (gVar 0) (aCons (gC (.int 3)) aNil)))) aNil))))) sNext) (sSeq (sIf (gBl (gOp mEq (gVar 1) (gC (.str "copy")))) (sRet (gTupD (aCons (gC (.str "copy")) (aCons (gCall m__law_taken (aCons (gVar 0) (aCons (gC (.int 2)) aNil))) (aCons (gCall m__law_taken (aCons (gVar 0) (aCons (gC (.int 2)) aNil))) aNil))))) sNext) (sRet (gTupD (aCons (gVar 1) (aCons (gCall m__law_taken (aCons (gVar 0) (aCons (gC (.int 2)) aNil))) (aCons (gCall m__law_taken (aCons (gVar 0) (aCons (gC (.int 2)) aNil))) aNil)))))))))
def m__law_instruction : List D → Sto → Out D := gFun 2 g__law_instruction
def g__law_cell : G Fl :=
  (sRet (gIf (gBl (gOp mEq (gOp mIx (gVar 0) (gC (.int 0))) (gC (.str "read")))) (gOp mIx (gVar 0) (gC (.int 2))) (gIf (gBl (gOp (mIn false) (gOp mIx (gVar 0) (gC (.int 0))) (gLstD (aCons (gC (.str "write")) (aCons (gC (.str "copy")) aNil))))) (gOp mIx (gVar 0) (gC (.int 1))) (gC .non))))
def m__law_cell : List D → Sto → Out D := gFun 1 g__law_cell
def g__law_last : G Fl :=
  (sRet (gOp3 (gComp [5] (gRange1 (aCons (gVar 1) aNil)) (.nm 5) (gTAnd (gBl (gOp (mIn false) (gOp mIx (gOp mIx (gVar 0) (gVar 5)) (gC (.int 0))) (gVar 2))) (gBl (gOp mEq (gOp mIx (gOp mIx (gVar 0) (gVar 5)) (gVar 3)) (gVar 4)))) (gVar 5)) (gSome (gUn mNeg (gC (.int 1)))) gNone))
def m__law_last : List D → Sto → Out D := gFun 6 g__law_last
def g__law_letter : G Fl :=
  (sRet (gTabIx [("read", "r"), ("write", "w"), ("copy", "w"), ("guard", "g"), ("fence", "f")] (gOp mIx (gVar 0) (gC (.int 0)))))
def m__law_letter : List D → Sto → Out D := gFun 1 g__law_letter
def g__law_must : G Fl :=
  (sSeq (sPar 4 5 (aCons (gOp mIx (gVar 1) (gVar 2)) (aCons (gOp mIx (gVar 1) (gVar 3)) aNil))) (sSeq (sSet 6 (gOp mAdd (gCall m__law_letter (aCons (gVar 4) aNil)) (gCall m__law_letter (aCons (gVar 5) aNil)))) (sSeq (sIf (gTOr (gBl (gOp (mIn false) (gC (.str "f")) (gVar 6))) (gBl (gOp mEq (gVar 6) (gC (.str "gg"))))) (sRet (gC (.bl true))) sNext) (sSeq (sIf (gTAnd (gBl (gOp (mIn false) (gOp mIx (gVar 5) (gC (.int 0))) (gLstD (aCons (gC (.str "copy")) (aCons (gC (.str "guard")) aNil))))) (gBl (gOp mEq (gLstD (aCons (gVar 2) aNil)) (gCall m__law_last (aCons (gVar 1) (aCons (gVar 3) (aCons (gLstD (aCons (gC (.str "read")) aNil)) (aCons (gC (.int 1)) (aCons (gIf (gBl (gOp mEq (gOp mIx (gVar 5) (gC (.int 0))) (gC (.str "copy")))) (gOp mIx (gVar 5) (gC (.int 2))) (gOp mIx (gVar 5) (gC (.int 1)))) aNil))))))))) (sRet (gC (.bl true))) sNext) (sSeq (sIf (gTAnd (gBl (gOp mEq (gOp mIx (gVar 5) (gC (.int 0))) (gC (.str "read")))) (gBl (gOp (mIn false) (gC (.str "own")) (gVar 0)))) (sFor (gSeq (gCall m__law_last (aCons (gVar 1) (aCons (gVar 3) (aCons (gLstD (aCons (gC (.str "write")) (aCons (gC (.str "copy")) aNil))) (aCons (gC (.int 1)) (aCons (gOp mIx (gVar 5) (gC (.int 2))) aNil))))))) (.nm 7) (sIf (gTAnd (gBl (gOp mEq (gOp mIx (gOp mIx (gVar 1) (gVar 7)) (gC (.int 0))) (gC (.str "copy")))) (gBl (gOp mEq (gLstD (aCons (gVar 2) aNil)) (gCall m__law_last (aCons (gVar 1) (aCons (gVar 7) (aCons (gLstD (aCons (gC (.str "read")) aNil)) (aCons (gC (.int 1)) (aCons (gOp mIx (gOp mIx (gVar 1) (gVar 7)) (gC (.int 2))) aNil))))))))) (sRet (gC (.bl true))) sNext)) sNext) (sSeq (sIf (gBl (gOp mEq (gOp mIx (gVar 6) (gC (.int 1))) (gC (.str "g")))) (sRet (gC (.bl false))) sNext) (sSeq (sIf (gTOr (gBl (gOp mEq (gOp mIx (gVar 6) (gC (.int 0))) (gC (.str "g")))) (gBl (gOp mNe (gCall m__law_cell (aCons (gVar 4) aNil)) (gCall m__law_cell (aCons (gVar 5) aNil))))) (sRet (gOp (mIn false) (gVar 6) (gVar 0))) sNext) (sSeq (sIf (gBl (gOp mEq (gVar 6) (gC (.str "rr")))) (sRet (gOp (mIn false) (gC (.str "ss")) (gVar 0))) sNext) (sRet (gOr (gOp mNe (gVar 6) (gC (.str "wr"))) (gOp (mIn true) (gC (.str "own")) (gVar 0))))))))))))
def m__law_must : List D → Sto → Out D := gFun 8 g__law_must
def g_is_number : G Fl :=
  (sRet (gAnd (gCB mIsi (aCons (gVar 0) (aCons (gC (.raw (.ty "int"))) aNil))) (gAnd (gNot (gCB mIsi (aCons (gVar 0) (aCons (gC (.raw (.ty "bool"))) aNil)))) (gB (gChain mLe mLe (gC (.int 0)) (gVar 0) (gVar 1))))))
def m_is_number : List D → Sto → Out D := gFun 2 g_is_number
def g_is_instruction : G Fl :=
  (sSeq (sIf (gTOr (gTNot (gTr (gCB mIsi (aCons (gVar 0) (aCons (gC (.raw (.ty "tuple"))) aNil))))) (gTOr (gBl (gOp mEq (gCB mLen (aCons (gVar 0) aNil)) (gC (.int 0)))) (gTNot (gTr (gCB mIsi (aCons (gOp mIx (gVar 0) (gC (.int 0))) (aCons (gC (.raw (.ty "str"))) aNil))))))) (sRet (gC (.bl false))) sNext) (sSeq (sSet 1 (gKGet t_GREATEST (gOp mIx (gVar 0) (gC (.int 0))))) (sSeq (sIf (gTOr (gBl (gOp mIs (gVar 1) (gC .non))) (gBl (gOp mNe (gCB mLen (aCons (gVar 0) aNil)) (gOp mAdd (gC (.int 1)) (gCB mLen (aCons (gVar 1) aNil)))))) (sRet (gC (.bl false))) sNext) (sRet (gCB mAll (aCons (gComp [2, 3] (gZip (aCons (gOp3 (gVar 0) (gSome (gC (.int 1))) gNone) (aCons (gVar 1) aNil))) (.tp [(.nm 2), (.nm 3)]) gYes (gCall m_is_number (aCons (gVar 2) (aCons (gVar 3) aNil)))) aNil))))))
def m_is_instruction : List D → Sto → Out D := gFun 4 g_is_instruction
def g_is_core : G Fl :=
  (sSeq (sIf (gTOr (gTNot (gTr (gCB mIsi (aCons (gVar 0) (aCons (gC (.raw (.ty "tuple"))) aNil))))) (gBl (gOp mGt (gCB mLen (aCons (gVar 0) aNil)) (gC (.int 5))))) (sRet (gC (.bl false))) sNext) (sRet (gCB mAll (aCons (gComp [1] (gSeq (gVar 0)) (.nm 1) gYes (gCall m_is_instruction (aCons (gVar 1) aNil))) aNil))))
def m_is_core : List D → Sto → Out D := gFun 2 g_is_core
def g_check_core : G Fl :=
  (sIf (gTNot (gTr (gCall m_is_core (aCons (gVar 0) aNil)))) (sRaise "BadCore") sNext)
def m_check_core : List D → Sto → Out D := gFun 1 g_check_core
def g_is_design : G Fl :=
  (sRet (gAnd (gCB mIsi (aCons (gVar 0) (aCons (gC (.raw (.ty "tuple"))) aNil))) (gOp mEq (gVar 0) (gCB mTuple (aCons (gComp [1] (gSeq (gC c_WORDS)) (.nm 1) (gBl (gOp (mIn false) (gVar 1) (gVar 0))) (gVar 1)) aNil)))))
def m_is_design : List D → Sto → Out D := gFun 2 g_is_design
def g_check_design : G Fl :=
  (sIf (gTNot (gTr (gCall m_is_design (aCons (gVar 0) aNil)))) (sRaise "BadDesign") sNext)
def m_check_design : List D → Sto → Out D := gFun 1 g_check_design
def g_check_places : G Fl :=
  (sSeq (sSet 3 (gOp mSub (gCB mLen (aCons (gVar 0) aNil)) (gC (.int 1)))) (sIf (gTOr (gTNot (gTr (gCall m_is_number (aCons (gVar 1) (aCons (gVar 3) aNil))))) (gTOr (gTNot (gTr (gCall m_is_number (aCons (gVar 2) (aCons (gVar 3) aNil))))) (gBl (gOp mGe (gVar 1) (gVar 2))))) (sRaise "BadPlace") sNext))
def m_check_places : List D → Sto → Out D := gFun 4 g_check_places
def g_is_reading : G Fl :=
  (sRet (gOp mEq (gOp mIx (gVar 0) (gC (.int 0))) (gC (.str "read"))))
def m_is_reading : List D → Sto → Out D := gFun 1 g_is_reading
def g_is_writing : G Fl :=
  (sRet (gOp (mIn false) (gOp mIx (gVar 0) (gC (.int 0))) (gTupD (aCons (gC (.str "write")) (aCons (gC (.str "copy")) aNil)))))
def m_is_writing : List D → Sto → Out D := gFun 1 g_is_writing
def g_cell_of : G Fl :=
  (sSeq (sIf (gTr (gCall m_is_reading (aCons (gVar 0) aNil))) (sRet (gOp mIx (gVar 0) (gC (.int 2)))) sNext) (sSeq (sIf (gTr (gCall m_is_writing (aCons (gVar 0) aNil))) (sRet (gOp mIx (gVar 0) (gC (.int 1)))) sNext) (sRet (gC .non))))
def m_cell_of : List D → Sto → Out D := gFun 1 g_cell_of
def g_is_kept_behind_guard : G Fl :=
  (sSeq (sIf (gTr (gCall m_is_reading (aCons (gVar 1) aNil))) (sRet (gOp (mIn false) (gC (.str "gr")) (gVar 0))) sNext) (sSeq (sIf (gTr (gCall m_is_writing (aCons (gVar 1) aNil))) (sRet (gOp (mIn false) (gC (.str "gw")) (gVar 0))) sNext) (sRet (gC (.bl true)))))
def m_is_kept_behind_guard : List D → Sto → Out D := gFun 2 g_is_kept_behind_guard
def g_is_kept_on_cell : G Fl :=
  (sSeq (sIf (gTr (gCall m_is_writing (aCons (gVar 2) aNil))) (sRet (gC (.bl true))) sNext) (sSeq (sIf (gTr (gCall m_is_writing (aCons (gVar 1) aNil))) (sRet (gOp (mIn true) (gC (.str "own")) (gVar 0))) sNext) (sRet (gOp (mIn false) (gC (.str "ss")) (gVar 0)))))
def m_is_kept_on_cell : List D → Sto → Out D := gFun 3 g_is_kept_on_cell
def g_kind_of : G Fl :=
  (sSeq (sIf (gTr (gCall m_is_reading (aCons (gVar 0) aNil))) (sRet (gC (.str "r"))) sNext) (sRet (gC (.str "w"))))
def m_kind_of : List D → Sto → Out D := gFun 1 g_kind_of
def g_last_read : G Fl :=
  (sSeq (sSet 3 (gC .non)) (sSeq (sFor (gRange1 (aCons (gVar 2) aNil)) (.nm 4) (sIf (gTAnd (gTr (gCall m_is_reading (aCons (gOp mIx (gVar 0) (gVar 4)) aNil))) (gBl (gOp mEq (gOp mIx (gOp mIx (gVar 0) (gVar 4)) (gC (.int 1))) (gVar 1)))) (sSet 3 (gVar 4)) sNext)) (sRet (gVar 3))))
def m_last_read : List D → Sto → Out D := gFun 5 g_last_read
def g_used_by : G Fl :=
  (sSeq (sIf (gBl (gOp mEq (gOp mIx (gVar 0) (gC (.int 0))) (gC (.str "copy")))) (sRet (gOp mIx (gVar 0) (gC (.int 2)))) sNext) (sSeq (sIf (gBl (gOp mEq (gOp mIx (gVar 0) (gC (.int 0))) (gC (.str "guard")))) (sRet (gOp mIx (gVar 0) (gC (.int 1)))) sNext) (sRet (gC .non))))
def m_used_by : List D → Sto → Out D := gFun 1 g_used_by
def g_is_kept : G Fl :=
  (sSeq (sPar 4 5 (aCons (gOp mIx (gVar 1) (gVar 2)) (aCons (gOp mIx (gVar 1) (gVar 3)) aNil))) (sSeq (sIf (gTOr (gBl (gOp mEq (gOp mIx (gVar 4) (gC (.int 0))) (gC (.str "fence")))) (gBl (gOp mEq (gOp mIx (gVar 5) (gC (.int 0))) (gC (.str "fence"))))) (sRet (gC (.bl true))) sNext) (sSeq (sIf (gTAnd (gBl (gOp mIsNot (gCall m_used_by (aCons (gVar 5) aNil)) (gC .non))) (gBl (gOp mEq (gCall m_last_read (aCons (gVar 1) (aCons (gCall m_used_by (aCons (gVar 5) aNil)) (aCons (gVar 3) aNil)))) (gVar 2)))) (sRet (gC (.bl true))) sNext) (sSeq (sIf (gBl (gOp mEq (gOp mIx (gVar 4) (gC (.int 0))) (gC (.str "guard")))) (sRet (gCall m_is_kept_behind_guard (aCons (gVar 0) (aCons (gVar 5) aNil)))) sNext) (sSeq (sIf (gTOr (gBl (gOp mIs (gCall m_cell_of (aCons (gVar 4) aNil)) (gC .non))) (gBl (gOp mIs (gCall m_cell_of (aCons (gVar 5) aNil)) (gC .non)))) (sRet (gC (.bl false))) sNext) (sSeq (sIf (gBl (gOp mEq (gCall m_cell_of (aCons (gVar 4) aNil)) (gCall m_cell_of (aCons (gVar 5) aNil)))) (sRet (gCall m_is_kept_on_cell (aCons (gVar 0) (aCons (gVar 4) (aCons (gVar 5) aNil))))) sNext) (sRet (gOp (mIn false) (gOp mAdd (gCall m_kind_of (aCons (gVar 4) aNil)) (gCall m_kind_of (aCons (gVar 5) aNil))) (gVar 0)))))))))
def m_is_kept : List D → Sto → Out D := gFun 6 g_is_kept
def g_last_writing : G Fl :=
  (sSeq (sSet 3 (gC .non)) (sSeq (sFor (gRange1 (aCons (gVar 2) aNil)) (.nm 4) (sIf (gTAnd (gTr (gCall m_is_writing (aCons (gOp mIx (gVar 0) (gVar 4)) aNil))) (gBl (gOp mEq (gCall m_cell_of (aCons (gOp mIx (gVar 0) (gVar 4)) aNil)) (gVar 1)))) (sSet 3 (gVar 4)) sNext)) (sRet (gVar 3))))
def m_last_writing : List D → Sto → Out D := gFun 5 g_last_writing
def g_waits_for_copied : G Fl :=
  (sSeq (sIf (gTOr (gBl (gOp (mIn true) (gC (.str "own")) (gVar 0))) (gTNot (gTr (gCall m_is_reading (aCons (gOp mIx (gVar 1) (gVar 3)) aNil))))) (sRet (gC (.bl false))) sNext) (sSeq (sSet 4 (gCall m_last_writing (aCons (gVar 1) (aCons (gCall m_cell_of (aCons (gOp mIx (gVar 1) (gVar 3)) aNil)) (aCons (gVar 3) aNil))))) (sSeq (sIf (gTOr (gBl (gOp mIs (gVar 4) (gC .non))) (gBl (gOp mNe (gOp mIx (gOp mIx (gVar 1) (gVar 4)) (gC (.int 0))) (gC (.str "copy"))))) (sRet (gC (.bl false))) sNext) (sRet (gOp mEq (gCall m_last_read (aCons (gVar 1) (aCons (gCall m_used_by (aCons (gOp mIx (gVar 1) (gVar 4)) aNil)) (aCons (gVar 4) aNil)))) (gVar 2))))))
def m_waits_for_copied : List D → Sto → Out D := gFun 5 g_waits_for_copied
def g_must_wait : G Fl :=
  (sRet (gOr (gCall m_is_kept (aCons (gVar 0) (aCons (gVar 1) (aCons (gVar 2) (aCons (gVar 3) aNil))))) (gCall m_waits_for_copied (aCons (gVar 0) (aCons (gVar 1) (aCons (gVar 2) (aCons (gVar 3) aNil)))))))
def m_must_wait : List D → Sto → Out D := gFun 4 g_must_wait
def g_must_be_done : G Fl :=
  (sSeq (sDrop (gCall m_check_design (aCons (gVar 0) aNil))) (sSeq (sDrop (gCall m_check_core (aCons (gVar 1) aNil))) (sSeq (sDrop (gCall m_check_places (aCons (gVar 1) (aCons (gVar 2) (aCons (gVar 3) aNil))))) (sRet (gCall m_must_wait (aCons (gVar 0) (aCons (gVar 1) (aCons (gVar 2) (aCons (gVar 3) aNil)))))))))
def m_must_be_done : List D → Sto → Out D := gFun 4 g_must_be_done
def g_law : G Fl :=
  (sSeq (sSet 1 (gLstM (aCons (gVar 0) (aCons (gC (.int 0)) (aCons (gC (.int 14244)) (aCons (gC (.int 0)) aNil)))))) (sSeq (sSet 2 (gCall m__law_design (aCons (gVar 1) aNil))) (sSeq (sSet 3 (gCB mTuple (aCons (gComp [10] (gRange1 (aCons (gOp mAdd (gC (.int 2)) (gCall m__law_taken (aCons (gVar 1) (aCons (gC (.int 4)) aNil)))) aNil)) (.nm 10) gYes (gCall m__law_instruction (aCons (gVar 1) aNil))) aNil))) (sSeq (sFor (gRange1 (aCons (gCB mLen (aCons (gVar 3) aNil)) aNil)) (.nm 4) (sFor (gRange1 (aCons (gVar 4) aNil)) (.nm 5) (sIf (gTNot (gTr (gCall m__law_alike (aCons (gCall m_must_be_done (aCons (gVar 2) (aCons (gVar 3) (aCons (gVar 5) (aCons (gVar 4) aNil))))) (aCons (gCall m__law_must (aCons (gVar 2) (aCons (gVar 3) (aCons (gVar 5) (aCons (gVar 4) aNil))))) aNil))))) (sRet (gC (.bl false))) sNext))) (sSeq (sSet 6 (gCall m__law_pick (aCons (gVar 1) (aCons (gLstD (aCons (gC .non) (aCons (gCB mList (aCons (gVar 3) aNil)) (aCons (gOp mRep (gVar 3) (gC (.int 3))) (aCons (gOp mAdd (gVar 3) (gTupD (aCons (gC .non) aNil))) (aCons (gTupD (aCons (gTupD (aCons (gC (.str "read")) (aCons (gC (.int 2)) (aCons (gC (.int 0)) aNil)))) aNil)) (aCons (gTupD (aCons (gTupD (aCons (gC (.str "read")) (aCons (gC (.int 0)) (aCons (gC (.int 3)) aNil)))) aNil)) (aCons (gTupD (aCons (gTupD (aCons (gC (.str "write")) (aCons (gC (.int 0)) (aCons (gC (.int 10)) aNil)))) aNil)) (aCons (gTupD (aCons (gTupD (aCons (gC (.str "fence")) (aCons (gC (.int 0)) aNil))) aNil)) (aCons (gC (.str "core")) aNil)))))))))) aNil)))) (sSeq (sIf (gBl (gOp mNe (gWrong lamQ wr_tab (.str "") (gCall m_must_be_done (aCons (gVar 2) (aCons (gVar 6) (aCons (gC .non) (aCons (gC .non) aNil)))))) (gC (.str "core")))) (sRet (gC (.bl false))) sNext) (sSeq (sSet 7 (gLstD (aCons (gTupD (aCons (gC .non) (aCons (gC (.int 1)) aNil))) (aCons (gTupD (aCons (gUn mNeg (gC (.int 1))) (aCons (gC (.int 1)) aNil))) (aCons (gTupD (aCons (gCB mLen (aCons (gVar 3) aNil)) (aCons (gC (.int 1)) aNil))) (aCons (gTupD (aCons (gC (.bl true)) (aCons (gC (.int 1)) aNil))) (aCons (gTupD (aCons (gC (.int 1)) (aCons (gC (.int 1)) aNil))) (aCons (gTupD (aCons (gC (.int 1)) (aCons (gC (.int 0)) aNil))) (aCons (gTupD (aCons (gC (.int 0)) (aCons (gCB mLen (aCons (gVar 3) aNil)) aNil))) (aCons (gTupD (aCons (gC (.int 0)) (aCons (gC .non) aNil))) (aCons (gTupD (aCons (gC (.int 0)) (aCons (gC (.bl true)) aNil))) (aCons (gTupD (aCons (gC (.str "0")) (aCons (gC (.int 1)) aNil))) aNil)))))))))))) (sSeq (sPat (.tp [(.nm 8), (.nm 9)]) (gOp mIx (gVar 7) (gCall m__law_taken (aCons (gVar 1) (aCons (gC (.int 10)) aNil))))) (sSeq (sIf (gBl (gOp mNe (gWrong lamQ wr_tab (.str "") (gCall m_must_be_done (aCons (gVar 2) (aCons (gVar 3) (aCons (gVar 8) (aCons (gVar 9) aNil)))))) (gC (.str "place")))) (sRet (gC (.bl false))) sNext) (sRet (gOp mEq (gWrong lamQ wr_tab (.str "") (gCall m_must_be_done (aCons (gCall m__law_pick (aCons (gVar 1) (aCons (gLstD (aCons (gC .non) (aCons (gLstD (aCons (gC (.str "rr")) aNil)) (aCons (gTupD (aCons (gC (.str "ww")) (aCons (gC (.str "rr")) aNil))) (aCons (gTupD (aCons (gC (.str "rr")) (aCons (gC (.str "rr")) aNil))) (aCons (gTupD (aCons (gC (.str "xx")) aNil)) (aCons (gC (.str "rr")) aNil))))))) aNil))) (aCons (gC .non) (aCons (gC .non) (aCons (gC .non) aNil)))))) (gC (.str "design")))))))))))))
def m_law : List D → Sto → Out D := gFun 11 g_law
structure Txt (K : PySem.W.Frag) (w : World) (mg : Str → Option Value) where
  a__law_alike : Addr
  d__law_alike : FuncData
  F__law_alike : Fun K "_law_alike" "_law_alike" s__law_alike a__law_alike d__law_alike
  b__law_alike : Binds K d__law_alike ["found", "due"] []
  g__law_alike : mg "_law_alike" = some (.ref a__law_alike)
  a__law_taken : Addr
  d__law_taken : FuncData
  F__law_taken : Fun K "_law_taken" "_law_taken" s__law_taken a__law_taken d__law_taken
  b__law_taken : Binds K d__law_taken ["row", "many"] []
  g__law_taken : mg "_law_taken" = some (.ref a__law_taken)
  a__law_design : Addr
  d__law_design : FuncData
  F__law_design : Fun K "_law_design" "_law_design" s__law_design a__law_design d__law_design
  b__law_design : Binds K d__law_design ["row"] []
  g__law_design : mg "_law_design" = some (.ref a__law_design)
  a__law_pick : Addr
  d__law_pick : FuncData
  F__law_pick : Fun K "_law_pick" "_law_pick" s__law_pick a__law_pick d__law_pick
  b__law_pick : Binds K d__law_pick ["row", "kinds"] []
  g__law_pick : mg "_law_pick" = some (.ref a__law_pick)
  a__law_instruction : Addr
  d__law_instruction : FuncData
  F__law_instruction : Fun K "_law_instruction" "_law_instruction" s__law_instruction a__law_instruction d__law_instruction
  b__law_instruction : Binds K d__law_instruction ["row"] []
  g__law_instruction : mg "_law_instruction" = some (.ref a__law_instruction)
  a__law_cell : Addr
  d__law_cell : FuncData
  F__law_cell : Fun K "_law_cell" "_law_cell" s__law_cell a__law_cell d__law_cell
  b__law_cell : Binds K d__law_cell ["one"] []
  g__law_cell : mg "_law_cell" = some (.ref a__law_cell)
  a__law_last : Addr
  d__law_last : FuncData
  F__law_last : Fun K "_law_last" "_law_last" s__law_last a__law_last d__law_last
  b__law_last : Binds K d__law_last ["core", "place", "kinds", "spot", "name"] []
  g__law_last : mg "_law_last" = some (.ref a__law_last)
  a__law_letter : Addr
  d__law_letter : FuncData
  F__law_letter : Fun K "_law_letter" "_law_letter" s__law_letter a__law_letter d__law_letter
  b__law_letter : Binds K d__law_letter ["one"] []
  g__law_letter : mg "_law_letter" = some (.ref a__law_letter)
  a__law_must : Addr
  d__law_must : FuncData
  F__law_must : Fun K "_law_must" "_law_must" s__law_must a__law_must d__law_must
  b__law_must : Binds K d__law_must ["design", "core", "i", "j"] []
  g__law_must : mg "_law_must" = some (.ref a__law_must)
  a_is_number : Addr
  d_is_number : FuncData
  F_is_number : Fun K "is_number" "is_number" s_is_number a_is_number d_is_number
  b_is_number : Binds K d_is_number ["value", "greatest"] []
  g_is_number : mg "is_number" = some (.ref a_is_number)
  a_is_instruction : Addr
  d_is_instruction : FuncData
  F_is_instruction : Fun K "is_instruction" "is_instruction" s_is_instruction a_is_instruction d_is_instruction
  b_is_instruction : Binds K d_is_instruction ["value"] []
  g_is_instruction : mg "is_instruction" = some (.ref a_is_instruction)
  a_is_core : Addr
  d_is_core : FuncData
  F_is_core : Fun K "is_core" "is_core" s_is_core a_is_core d_is_core
  b_is_core : Binds K d_is_core ["value"] []
  g_is_core : mg "is_core" = some (.ref a_is_core)
  a_check_core : Addr
  d_check_core : FuncData
  F_check_core : Fun K "check_core" "check_core" s_check_core a_check_core d_check_core
  b_check_core : Binds K d_check_core ["value"] []
  g_check_core : mg "check_core" = some (.ref a_check_core)
  a_is_design : Addr
  d_is_design : FuncData
  F_is_design : Fun K "is_design" "is_design" s_is_design a_is_design d_is_design
  b_is_design : Binds K d_is_design ["value"] []
  g_is_design : mg "is_design" = some (.ref a_is_design)
  a_check_design : Addr
  d_check_design : FuncData
  F_check_design : Fun K "check_design" "check_design" s_check_design a_check_design d_check_design
  b_check_design : Binds K d_check_design ["value"] []
  g_check_design : mg "check_design" = some (.ref a_check_design)
  a_check_places : Addr
  d_check_places : FuncData
  F_check_places : Fun K "check_places" "check_places" s_check_places a_check_places d_check_places
  b_check_places : Binds K d_check_places ["core", "first", "second"] []
  g_check_places : mg "check_places" = some (.ref a_check_places)
  a_is_reading : Addr
  d_is_reading : FuncData
  F_is_reading : Fun K "is_reading" "is_reading" s_is_reading a_is_reading d_is_reading
  b_is_reading : Binds K d_is_reading ["instruction"] []
  g_is_reading : mg "is_reading" = some (.ref a_is_reading)
  a_is_writing : Addr
  d_is_writing : FuncData
  F_is_writing : Fun K "is_writing" "is_writing" s_is_writing a_is_writing d_is_writing
  b_is_writing : Binds K d_is_writing ["instruction"] []
  g_is_writing : mg "is_writing" = some (.ref a_is_writing)
  a_cell_of : Addr
  d_cell_of : FuncData
  F_cell_of : Fun K "cell_of" "cell_of" s_cell_of a_cell_of d_cell_of
  b_cell_of : Binds K d_cell_of ["instruction"] []
  g_cell_of : mg "cell_of" = some (.ref a_cell_of)
  a_is_kept_behind_guard : Addr
  d_is_kept_behind_guard : FuncData
  F_is_kept_behind_guard : Fun K "is_kept_behind_guard" "is_kept_behind_guard" s_is_kept_behind_guard a_is_kept_behind_guard d_is_kept_behind_guard
  b_is_kept_behind_guard : Binds K d_is_kept_behind_guard ["design", "later"] []
  g_is_kept_behind_guard : mg "is_kept_behind_guard" = some (.ref a_is_kept_behind_guard)
  a_is_kept_on_cell : Addr
  d_is_kept_on_cell : FuncData
  F_is_kept_on_cell : Fun K "is_kept_on_cell" "is_kept_on_cell" s_is_kept_on_cell a_is_kept_on_cell d_is_kept_on_cell
  b_is_kept_on_cell : Binds K d_is_kept_on_cell ["design", "earlier", "later"] []
  g_is_kept_on_cell : mg "is_kept_on_cell" = some (.ref a_is_kept_on_cell)
  a_kind_of : Addr
  d_kind_of : FuncData
  F_kind_of : Fun K "kind_of" "kind_of" s_kind_of a_kind_of d_kind_of
  b_kind_of : Binds K d_kind_of ["instruction"] []
  g_kind_of : mg "kind_of" = some (.ref a_kind_of)
  a_last_read : Addr
  d_last_read : FuncData
  F_last_read : Fun K "last_read" "last_read" s_last_read a_last_read d_last_read
  b_last_read : Binds K d_last_read ["core", "number", "place"] []
  g_last_read : mg "last_read" = some (.ref a_last_read)
  a_used_by : Addr
  d_used_by : FuncData
  F_used_by : Fun K "used_by" "used_by" s_used_by a_used_by d_used_by
  b_used_by : Binds K d_used_by ["instruction"] []
  g_used_by : mg "used_by" = some (.ref a_used_by)
  a_is_kept : Addr
  d_is_kept : FuncData
  F_is_kept : Fun K "is_kept" "is_kept" s_is_kept a_is_kept d_is_kept
  b_is_kept : Binds K d_is_kept ["design", "core", "first", "second"] []
  g_is_kept : mg "is_kept" = some (.ref a_is_kept)
  a_last_writing : Addr
  d_last_writing : FuncData
  F_last_writing : Fun K "last_writing" "last_writing" s_last_writing a_last_writing d_last_writing
  b_last_writing : Binds K d_last_writing ["core", "cell", "place"] []
  g_last_writing : mg "last_writing" = some (.ref a_last_writing)
  a_waits_for_copied : Addr
  d_waits_for_copied : FuncData
  F_waits_for_copied : Fun K "waits_for_copied" "waits_for_copied" s_waits_for_copied a_waits_for_copied d_waits_for_copied
  b_waits_for_copied : Binds K d_waits_for_copied ["design", "core", "first", "second"] []
  g_waits_for_copied : mg "waits_for_copied" = some (.ref a_waits_for_copied)
  a_must_wait : Addr
  d_must_wait : FuncData
  F_must_wait : Fun K "must_wait" "must_wait" s_must_wait a_must_wait d_must_wait
  b_must_wait : Binds K d_must_wait ["design", "core", "first", "second"] []
  g_must_wait : mg "must_wait" = some (.ref a_must_wait)
  a_must_be_done : Addr
  d_must_be_done : FuncData
  F_must_be_done : Fun K "must_be_done" "must_be_done" s_must_be_done a_must_be_done d_must_be_done
  b_must_be_done : Binds K d_must_be_done ["design", "core", "first", "second"] []
  g_must_be_done : mg "must_be_done" = some (.ref a_must_be_done)
  a__law_wrong : Addr
  d__law_wrong : FuncData
  F__law_wrong : Fun K "_law_wrong" "_law_wrong" s__law_wrong a__law_wrong d__law_wrong
  b__law_wrong : Binds K d__law_wrong ["work"] []
  g__law_wrong : mg "_law_wrong" = some (.ref a__law_wrong)
  a_law : Addr
  d_law : FuncData
  F_law : Fun K "law" "law" s_law a_law d_law
  b_law : Binds K d_law ["script"] []
  g_law : mg "law" = some (.ref a_law)
  n_all : mg "all" = none
  n_bool : mg "bool" = none
  n_int : mg "int" = none
  n_isinstance : mg "isinstance" = none
  n_len : mg "len" = none
  n_list : mg "list" = none
  n_range : mg "range" = none
  n_str : mg "str" = none
  n_tuple : mg "tuple" = none
  n_zip : mg "zip" = none
  a_PairError : Addr
  g_PairError : mg "PairError" = some (.ref a_PairError)
  a_BadCore : Addr
  x_BadCore : XC K mg "BadCore" a_PairError a_BadCore
  a_BadPlace : Addr
  x_BadPlace : XC K mg "BadPlace" a_PairError a_BadPlace
  a_BadDesign : Addr
  x_BadDesign : XC K mg "BadDesign" a_PairError a_BadDesign
  i_core_core : PySem.W.kitOne K (.ref a_BadCore) (.ref a_BadCore) = some true
  i_place_core : PySem.W.kitOne K (.ref a_BadPlace) (.ref a_BadCore) = some false
  i_place_place : PySem.W.kitOne K (.ref a_BadPlace) (.ref a_BadPlace) = some true
  i_design_core : PySem.W.kitOne K (.ref a_BadDesign) (.ref a_BadCore) = some false
  i_design_place : PySem.W.kitOne K (.ref a_BadDesign) (.ref a_BadPlace) = some false
  i_design_design : PySem.W.kitOne K (.ref a_BadDesign) (.ref a_BadDesign) = some true
  a_GREATEST : Addr
  e_GREATEST : Array DictEntry
  z_GREATEST : Nat
  c_GREATEST : mg "GREATEST" = some (.ref a_GREATEST)
  k_GREATEST : KDict K w a_GREATEST e_GREATEST z_GREATEST
  t_GREATEST : KTab K a_GREATEST t_GREATEST
  a_WORDS : Addr
  c_WORDS : mg "WORDS" = some (.ref a_WORDS) ∧ ∀ β H, Rep K β H (.ref a_WORDS) c_WORDS
  u_MOST_IN_CORE : Value
  c_MOST_IN_CORE : mg "MOST_IN_CORE" = some u_MOST_IN_CORE ∧ RelV (.int 5) u_MOST_IN_CORE
def wr_R {K : PySem.W.Frag} {w : World} {mg : Str → Option Value} (T : Txt K w mg) : Addr → V → Prop := fun D v => (D = T.a_BadCore ∧ v = .str "core") ∨ (D = T.a_BadPlace ∧ v = .str "place") ∨ (D = T.a_BadDesign ∧ v = .str "design")
theorem wr_ok {K : PySem.W.Frag} {w : World} {mg : Str → Option Value} (T : Txt K w mg) : ∀ n d, wr_tab.lookup n = some d → ∃ D v, mg n = some (.ref D) ∧ (∀ β H, Rep K β H v d) ∧ wr_R T D v ∧ PySem.W.exmOne K (.ref D) (.ref T.a_PairError) = some true := by
  intro n d h
  simp only [wr_tab, List.lookup_cons, List.lookup_nil] at h
  split at h
  · rename_i e
    cases h
    rw [eq_of_beq e]
    exact ⟨_, _, T.x_BadCore.g, fun _ _ => .str _, .inl ⟨rfl, rfl⟩, T.x_BadCore.up⟩
  · split at h
    · rename_i e
      cases h
      rw [eq_of_beq e]
      exact ⟨_, _, T.x_BadPlace.g, fun _ _ => .str _, .inr (.inl ⟨rfl, rfl⟩), T.x_BadPlace.up⟩
    · split at h
      · rename_i e
        cases h
        rw [eq_of_beq e]
        exact ⟨_, _, T.x_BadDesign.g, fun _ _ => .str _, .inr (.inr ⟨rfl, rfl⟩), T.x_BadDesign.up⟩
      · cases h
theorem gives_w {P : Program} {w : World} {K : PySem.W.Frag} {mg : Str → Option Value} {base : Heap} (T : Txt K w mg) {q : Str} (X : Cx) (hK : X.K = K) (hmg : X.mg = mg) (cdv : Value) : GivesTo X N__law_wrong "_law_wrong" (defScope s__law_wrong) T.a__law_wrong cdv (defBody s__law_wrong) "work" q (TTw X.K T.a_PairError (wr_R T) (.str "")) := by
  subst hK hmg
  exact wrong_gives (n := "e") rfl T.g_PairError rfl (fun _ => rfl) sc__law_wrong.nd rfl (fun _ _ _ => rfl) (fun _ => pe_str) (fun A s H b D oe pn v hz hd hR => by
    rcases hR with ⟨rfl, rfl⟩ | ⟨rfl, rfl⟩ | ⟨rfl, rfl⟩
    · exact se_if (b := true) (se_is (call_isE T.x_BadCore.is hz hd) rfl (.inl rfl) (by rfl) T.n_isinstance (by rfl) T.x_BadCore.g T.i_core_core) (fun _ => se_str) (fun z => by cases z)
    · exact se_if (b := false) (se_is (call_isE T.x_BadPlace.is hz hd) rfl (.inl rfl) (by rfl) T.n_isinstance (by rfl) T.x_BadCore.g T.i_place_core) (fun z => by cases z) (fun _ => se_if (b := true) (se_is (call_isE T.x_BadPlace.is hz hd) rfl (.inl rfl) (by rfl) T.n_isinstance (by rfl) T.x_BadPlace.g T.i_place_place) (fun _ => se_str) (fun z => by cases z))
    · exact se_if (b := false) (se_is (call_isE T.x_BadDesign.is hz hd) rfl (.inl rfl) (by rfl) T.n_isinstance (by rfl) T.x_BadCore.g T.i_design_core) (fun z => by cases z) (fun _ => se_if (b := false) (se_is (call_isE T.x_BadDesign.is hz hd) rfl (.inl rfl) (by rfl) T.n_isinstance (by rfl) T.x_BadPlace.g T.i_design_place) (fun z => by cases z) (fun _ => se_if (b := true) (se_is (call_isE T.x_BadDesign.is hz hd) rfl (.inl rfl) (by rfl) T.n_isinstance (by rfl) T.x_BadDesign.g T.i_design_design) (fun _ => se_str) (fun z => by cases z))))
section
variable {P : Program} {w : World} {K : PySem.W.Frag} {mg : Str → Option Value} {base : Heap} (T : Txt K w mg)
theorem ok__law_alike {P : Program} {w : World} {K : PySem.W.Frag} {mg : Str → Option Value} {base : Heap} (T : Txt K w mg) : FnD P w K mg base 1 T.a__law_alike T.d__law_alike ["found", "due"] m__law_alike :=
  fnD_of T.F__law_alike sc__law_alike fun cdv A outer s H E hr => (dss_cons (ds_if (dt_tr (de_callB call_isiS cd_isiT (by rfl) T.n_isinstance (by decide +kernel) (da_cons (de_var 1) (da_cons (de_tup (da_cons (de_type (by rfl) T.n_tuple (by decide +kernel)) (da_cons (de_type (by rfl) T.n_list (by decide +kernel)) da_nil))) da_nil)))) dss_bad dss_nil) (dss_cons (ds_if (dt_w (dw_or (dt_cmp or_is od_is (de_var 1) de_non) (dw_or1 (dt_tr (de_callB call_isi cd_isi (by rfl) T.n_isinstance (by decide +kernel) (da_cons (de_var 1) (da_cons (de_type (by rfl) T.n_str (by decide +kernel)) da_nil))))))) (dss_one (ds_ret (de_and (de_cmp (op_eqD (hu64 hr)) od_eq (de_var 0) (de_var 1)) (de_one (de_cmp (op_eqD (hu64 hr)) od_eq (de_callB call_isi cd_isi (by rfl) T.n_isinstance (by decide +kernel) (da_cons (de_var 0) (da_cons (de_type (by rfl) T.n_str (by decide +kernel)) da_nil))) (de_callB call_isi cd_isi (by rfl) T.n_isinstance (by decide +kernel) (da_cons (de_var 1) (da_cons (de_type (by rfl) T.n_str (by decide +kernel)) da_nil)))))))) dss_nil) (dss_one (ds_ret (de_and (de_callB call_isi cd_isi (by rfl) T.n_isinstance (by decide +kernel) (da_cons (de_var 0) (da_cons (de_type (by rfl) T.n_int (by decide +kernel)) da_nil))) (de_and (de_cmp (op_eqD (hu64 hr)) od_eq (de_callB call_isi cd_isi (by rfl) T.n_isinstance (by decide +kernel) (da_cons (de_var 0) (da_cons (de_type (by rfl) T.n_bool (by decide +kernel)) da_nil))) (de_callB call_isi cd_isi (by rfl) T.n_isinstance (by decide +kernel) (da_cons (de_var 1) (da_cons (de_type (by rfl) T.n_bool (by decide +kernel)) da_nil)))) (de_one (de_cmp (op_eqD (hu64 hr)) od_eq (de_var 0) (de_var 1)))))))))
theorem ok__law_taken {P : Program} {w : World} {K : PySem.W.Frag} {mg : Str → Option Value} {base : Heap} (T : Txt K w mg) : FnD P w K mg base 1 T.a__law_taken T.d__law_taken ["row", "many"] m__law_taken :=
  fnD_of T.F__law_taken sc__law_taken fun cdv A outer s H E hr => (dss_cons (ds_if (dt_cmp op_gt od_gt (de_ix ix_seq od_ix (de_var 0) de_int) de_int) (dss_cons (ds_set 2 sc__law_taken.nd rfl (by first | exact Or.inl rfl | exact Or.inr rfl) (de_op op_mod od_mod (de_callTy call_int1 cd_int (by rfl) T.n_int (by decide +kernel) (da_cons (de_ix ix_seq od_ix (de_var 0) de_int) da_nil)) (de_var 1))) (dss_cons (ds_put (de_var 0) de_int (de_op op_fdiv od_fdiv (de_ix ix_seq od_ix (de_var 0) de_int) (de_var 1))) (dss_one (ds_ret (de_var 2))))) dss_nil) (dss_cons (ds_put (de_var 0) de_int (de_op or_add od_add (de_ix ix_seq od_ix (de_var 0) de_int) de_int)) (dss_cons (ds_if (dt_cmp op_gt od_gt (de_ix ix_seq od_ix (de_var 0) de_int) (de_callB call_len cd_len (by rfl) T.n_len (by decide +kernel) (da_cons (de_ix ix_seq od_ix (de_var 0) de_int) da_nil))) (dss_cons (ds_put (de_var 0) de_int (de_op op_mod od_mod (de_callTy call_int1 cd_int (by rfl) T.n_int (by decide +kernel) (da_cons (de_op or_add od_add (de_op or_mul od_mul (de_ix ix_seq od_ix (de_var 0) de_int) de_int) de_int) da_nil)) de_int)) (dss_one (ds_ret (de_op op_mod od_mod (de_callTy call_int1 cd_int (by rfl) T.n_int (by decide +kernel) (da_cons (de_op op_fdiv od_fdiv (de_ix ix_seq od_ix (de_var 0) de_int) de_int) da_nil)) (de_var 1))))) dss_nil) (dss_cons (ds_set 3 sc__law_taken.nd rfl (by first | exact Or.inl rfl | exact Or.inr rfl) (de_ix ix_seq od_ix (de_ix ix_seq od_ix (de_var 0) de_int) (de_op op_sub od_sub (de_ix ix_seq od_ix (de_var 0) de_int) de_int))) (dss_cons (ds_put (de_var 0) de_int (de_op op_mod od_mod (de_callTy call_int1 cd_int (by rfl) T.n_int (by decide +kernel) (da_cons (de_op or_add od_add (de_op or_add od_add (de_op or_mul od_mul (de_ix ix_seq od_ix (de_var 0) de_int) de_int) (de_var 3)) de_int) da_nil)) de_int)) (dss_cons (ds_if (dt_cmp op_ge od_ge (de_var 3) (de_op op_pow od_pow de_int de_int)) (dss_one (ds_put (de_var 0) de_int (de_op op_fdiv od_fdiv (de_var 3) (de_var 1)))) dss_nil) (dss_one (ds_ret (de_op op_mod od_mod (de_callTy call_int1 cd_int (by rfl) T.n_int (by decide +kernel) (da_cons (de_var 3) da_nil)) (de_var 1))))))))))
theorem ok__law_design {P : Program} {w : World} {K : PySem.W.Frag} {mg : Str → Option Value} {base : Heap} (T : Txt K w mg) : FnD P w K mg base 2 T.a__law_design T.d__law_design ["row"] m__law_design :=
  fnD_of T.F__law_design sc__law_design fun cdv A outer s H E hr => (dss_one (ds_ret (de_callTy call_tuple_of cd_tuple (by rfl) T.n_tuple (by decide +kernel) (da_cons (de_comp (own := [("word", 1)]) (p := (.nm 1)) rfl sc__law_design.nd (di_seq (de_lst (da_cons de_str (da_cons de_str (da_cons de_str (da_cons de_str (da_cons de_str (da_cons de_str (da_cons de_str (da_cons de_str da_nil)))))))))) (blkOk_by (N := N__law_design) (sc := (defScope s__law_design)) (by decide +kernel)) (by decide) (fun _ _ _ _ _ => (dg_nm (i := 1) sc__law_design.nd rfl (by first | exact Or.inl rfl | exact Or.inr rfl))) (fun _ _ _ _ _ => (dts_one (dt_cmp (op_eqD (hu64 hr)) od_eq (de_call (ok__law_taken T) takesF (hr.mono (by decide)) (by rfl) T.g__law_taken T.F__law_taken.kp T.b__law_taken rfl (da_cons (de_var 0) (da_cons de_int da_nil)) (hfl := (al_cons (al_cons al_nil)))) de_int))) (fun _ _ _ _ _ => (de_var 1))) da_nil))))
theorem ok__law_pick {P : Program} {w : World} {K : PySem.W.Frag} {mg : Str → Option Value} {base : Heap} (T : Txt K w mg) : FnD P w K mg base 2 T.a__law_pick T.d__law_pick ["row", "kinds"] m__law_pick :=
  fnD_of T.F__law_pick sc__law_pick fun cdv A outer s H E hr => (dss_one (ds_ret (de_ix ix_seq od_ix (de_var 1) (de_call (ok__law_taken T) (takes_of rfl rfl rfl rfl) (hr.mono (by decide)) (by rfl) T.g__law_taken T.F__law_taken.kp T.b__law_taken rfl (da_cons (de_var 0) (da_cons (de_callB call_len cd_len (by rfl) T.n_len (by decide +kernel) (da_cons (de_var 1) da_nil)) da_nil)) (hfl := (al_cons (al_cons al_nil)))))))
theorem ok__law_instruction {P : Program} {w : World} {K : PySem.W.Frag} {mg : Str → Option Value} {base : Heap} (T : Txt K w mg) : FnD P w K mg base 3 T.a__law_instruction T.d__law_instruction ["row"] m__law_instruction :=
  fnD_of T.F__law_instruction sc__law_instruction fun cdv A outer s H E hr => (dss_cons (ds_set 1 sc__law_instruction.nd rfl (by first | exact Or.inl rfl | exact Or.inr rfl) (de_call (ok__law_pick T) (takes_of rfl rfl rfl rfl) (hr.mono (by decide)) (by rfl) T.g__law_pick T.F__law_pick.kp T.b__law_pick rfl (da_cons (de_var 0) (da_cons (de_lst (da_cons de_str (da_cons de_str (da_cons de_str (da_cons de_str (da_cons de_str (da_cons de_str (da_cons de_str (da_cons de_str (da_cons de_str da_nil)))))))))) da_nil)) (hfl := (al_cons (al_cons al_nil))))) (dss_cons (ds_if (dt_cmp (op_eqD (hu64 hr)) od_eq (de_var 1) de_str) (dss_one (ds_ret (de_tup (da_cons de_str da_nil)))) dss_nil) (dss_cons (ds_if (dt_cmp (op_eqD (hu64 hr)) od_eq (de_var 1) de_str) (dss_one (ds_ret (de_tup (da_cons de_str (da_cons (de_call (ok__law_taken T) (takes_of rfl rfl rfl rfl) (hr.mono (by decide)) (by rfl) T.g__law_taken T.F__law_taken.kp T.b__law_taken rfl (da_cons (de_var 0) (da_cons de_int da_nil)) (hfl := (al_cons (al_cons al_nil)))) (da_cons (de_op or_add od_add de_int (de_call (ok__law_taken T) (takes_of rfl rfl rfl rfl) (hr.mono (by decide)) (by rfl) T.g__law_taken T.F__law_taken.kp T.b__law_taken rfl (da_cons (de_var 0) (da_cons de_int da_nil)) (hfl := (al_cons (al_cons al_nil))))) da_nil)))))) dss_nil) (dss_cons (ds_if (dt_cmp (op_eqD (hu64 hr)) od_eq (de_var 1) de_str) (dss_one (ds_ret (de_tup (da_cons de_str (da_cons (de_call (ok__law_taken T) (takes_of rfl rfl rfl rfl) (hr.mono (by decide)) (by rfl) T.g__law_taken T.F__law_taken.kp T.b__law_taken rfl (da_cons (de_var 0) (da_cons de_int da_nil)) (hfl := (al_cons (al_cons al_nil)))) (da_cons (de_call (ok__law_taken T) (takes_of rfl rfl rfl rfl) (hr.mono (by decide)) (by rfl) T.g__law_taken T.F__law_taken.kp T.b__law_taken rfl (da_cons (de_var 0) (da_cons de_int da_nil)) (hfl := (al_cons (al_cons al_nil)))) da_nil)))))) dss_nil) (dss_one (ds_ret (de_tup (da_cons (de_var 1) (da_cons (de_call (ok__law_taken T) (takes_of rfl rfl rfl rfl) (hr.mono (by decide)) (by rfl) T.g__law_taken T.F__law_taken.kp T.b__law_taken rfl (da_cons (de_var 0) (da_cons de_int da_nil)) (hfl := (al_cons (al_cons al_nil)))) (da_cons (de_call (ok__law_taken T) (takes_of rfl rfl rfl rfl) (hr.mono (by decide)) (by rfl) T.g__law_taken T.F__law_taken.kp T.b__law_taken rfl (da_cons (de_var 0) (da_cons de_int da_nil)) (hfl := (al_cons (al_cons al_nil)))) da_nil))))))))))
theorem ok__law_cell {P : Program} {w : World} {K : PySem.W.Frag} {mg : Str → Option Value} {base : Heap} (T : Txt K w mg) : FnD P w K mg base 1 T.a__law_cell T.d__law_cell ["one"] m__law_cell :=
  fnD_of T.F__law_cell sc__law_cell fun cdv A outer s H E hr => (dss_one (ds_ret (de_if (dt_cmp (op_eqD (hu64 hr)) od_eq (de_ix ix_seq od_ix (de_var 0) de_int) de_str) (de_ix ix_seq od_ix (de_var 0) de_int) (de_if (dt_cmp (or_in (hu65 hr)) (od_in false) (de_ix ix_seq od_ix (de_var 0) de_int) (de_lst (da_cons de_str (da_cons de_str da_nil)))) (de_ix ix_seq od_ix (de_var 0) de_int) de_non))))
theorem ok__law_last {P : Program} {w : World} {K : PySem.W.Frag} {mg : Str → Option Value} {base : Heap} (T : Txt K w mg) : FnD P w K mg base 1 T.a__law_last T.d__law_last ["core", "place", "kinds", "spot", "name"] m__law_last :=
  fnD_of T.F__law_last sc__law_last fun cdv A outer s H E hr => (dss_one (ds_ret (de_sl (de_comp (own := [("k", 5)]) (p := (.nm 5)) rfl sc__law_last.nd (di_range1 (by rfl) T.n_range (da_cons (de_var 1) da_nil)) (blkOk_by (N := N__law_last) (sc := (defScope s__law_last)) (by decide +kernel)) (by decide) (fun _ _ _ _ _ => (dg_nm (i := 5) sc__law_last.nd rfl (by first | exact Or.inl rfl | exact Or.inr rfl))) (fun _ _ _ _ _ => (dts_one (dt_w (dw_and (dt_cmp (or_in (hu65 hr)) (od_in false) (de_ix ix_seq od_ix (de_ix ix_seq od_ix (de_var 0) (de_var 5)) de_int) (de_var 2)) (dw_and1 (dt_cmp (op_eqD (hu64 hr)) od_eq (de_ix ix_seq od_ix (de_ix ix_seq od_ix (de_var 0) (de_var 5)) (de_var 3)) (de_var 4))))))) (fun _ _ _ _ _ => (de_var 5))) (do_some (de_un un_neg ud_neg de_int)) do_none)))
theorem ok__law_letter {P : Program} {w : World} {K : PySem.W.Frag} {mg : Str → Option Value} {base : Heap} (T : Txt K w mg) : FnD P w K mg base 1 T.a__law_letter T.d__law_letter ["one"] m__law_letter :=
  fnD_of T.F__law_letter sc__law_letter fun cdv A outer s H E hr => (dss_one (ds_ret (de_tabIx (tab := [("read", "r"), ("write", "w"), ("copy", "w"), ("guard", "g"), ("fence", "f")]) hr (pps_str (pps_str (pps_str (pps_str (pps_str pps_nil))))) rfl (by decide) (de_ix ix_seq od_ix (de_var 0) de_int))))
theorem ok__law_must {P : Program} {w : World} {K : PySem.W.Frag} {mg : Str → Option Value} {base : Heap} (T : Txt K w mg) : FnD P w K mg base 2 T.a__law_must T.d__law_must ["design", "core", "i", "j"] m__law_must :=
  fnD_of T.F__law_must sc__law_must fun cdv A outer s H E hr => (dss_cons (ds_par (i := 4) (j := 5) rfl sc__law_must.nd rfl rfl (by decide) rfl rfl (da_cons (de_ix ix_seq od_ix (de_var 1) (de_var 2)) (da_cons (de_ix ix_seq od_ix (de_var 1) (de_var 3)) da_nil)) rfl) (dss_cons (ds_set 6 sc__law_must.nd rfl (by first | exact Or.inl rfl | exact Or.inr rfl) (de_op or_add od_add (de_call (ok__law_letter T) (takes_of rfl rfl rfl rfl) (hr.mono (by decide)) (by rfl) T.g__law_letter T.F__law_letter.kp T.b__law_letter rfl (da_cons (de_var 4) da_nil) (hfl := (al_cons al_nil))) (de_call (ok__law_letter T) (takes_of rfl rfl rfl rfl) (hr.mono (by decide)) (by rfl) T.g__law_letter T.F__law_letter.kp T.b__law_letter rfl (da_cons (de_var 5) da_nil) (hfl := (al_cons al_nil))))) (dss_cons (ds_if (dt_w (dw_or (dt_cmp (or_in (hu65 hr)) (od_in false) de_str (de_var 6)) (dw_or1 (dt_cmp (op_eqD (hu64 hr)) od_eq (de_var 6) de_str)))) (dss_one (ds_ret de_bl)) dss_nil) (dss_cons (ds_if (dt_w (dw_and (dt_cmp (or_in (hu65 hr)) (od_in false) (de_ix ix_seq od_ix (de_var 5) de_int) (de_lst (da_cons de_str (da_cons de_str da_nil)))) (dw_and1 (dt_cmp (op_eqD (hu64 hr)) od_eq (de_lst (da_cons (de_var 2) da_nil)) (de_call (ok__law_last T) (takes_of rfl rfl rfl rfl) (hr.mono (by decide)) (by rfl) T.g__law_last T.F__law_last.kp T.b__law_last rfl (da_cons (de_var 1) (da_cons (de_var 3) (da_cons (de_lst (da_cons de_str da_nil)) (da_cons de_int (da_cons (de_if (dt_cmp (op_eqD (hu64 hr)) od_eq (de_ix ix_seq od_ix (de_var 5) de_int) de_str) (de_ix ix_seq od_ix (de_var 5) de_int) (de_ix ix_seq od_ix (de_var 5) de_int)) da_nil))))) (hfl := (al_cons (al_cons (al_cons (al_cons (al_cons al_nil))))))))))) (dss_one (ds_ret de_bl)) dss_nil) (dss_cons (ds_if (dt_w (dw_and (dt_cmp (op_eqD (hu64 hr)) od_eq (de_ix ix_seq od_ix (de_var 5) de_int) de_str) (dw_and1 (dt_cmp (or_in (hu65 hr)) (od_in false) de_str (de_var 0))))) (dss_one (ds_for (p := (.nm 7)) (passes_of rfl) rfl (di_seq (de_call (ok__law_last T) (takes_of rfl rfl rfl rfl) (hr.mono (by decide)) (by rfl) T.g__law_last T.F__law_last.kp T.b__law_last rfl (da_cons (de_var 1) (da_cons (de_var 3) (da_cons (de_lst (da_cons de_str (da_cons de_str da_nil))) (da_cons de_int (da_cons (de_ix ix_seq od_ix (de_var 5) de_int) da_nil))))) (hfl := (al_cons (al_cons (al_cons (al_cons (al_cons al_nil)))))))) (dg_nm (i := 7) sc__law_must.nd rfl (by first | exact Or.inl rfl | exact Or.inr rfl)) (dss_one (ds_if (dt_w (dw_and (dt_cmp (op_eqD (hu64 hr)) od_eq (de_ix ix_seq od_ix (de_ix ix_seq od_ix (de_var 1) (de_var 7)) de_int) de_str) (dw_and1 (dt_cmp (op_eqD (hu64 hr)) od_eq (de_lst (da_cons (de_var 2) da_nil)) (de_call (ok__law_last T) (takes_of rfl rfl rfl rfl) (hr.mono (by decide)) (by rfl) T.g__law_last T.F__law_last.kp T.b__law_last rfl (da_cons (de_var 1) (da_cons (de_var 7) (da_cons (de_lst (da_cons de_str da_nil)) (da_cons de_int (da_cons (de_ix ix_seq od_ix (de_ix ix_seq od_ix (de_var 1) (de_var 7)) de_int) da_nil))))) (hfl := (al_cons (al_cons (al_cons (al_cons (al_cons al_nil))))))))))) (dss_one (ds_ret de_bl)) dss_nil)))) dss_nil) (dss_cons (ds_if (dt_cmp (op_eqD (hu64 hr)) od_eq (de_ix ix_seq od_ix (de_var 6) de_int) de_str) (dss_one (ds_ret de_bl)) dss_nil) (dss_cons (ds_if (dt_w (dw_or (dt_cmp (op_eqD (hu64 hr)) od_eq (de_ix ix_seq od_ix (de_var 6) de_int) de_str) (dw_or1 (dt_cmp (op_neD (hu64 hr)) od_ne (de_call (ok__law_cell T) (takes_of rfl rfl rfl rfl) (hr.mono (by decide)) (by rfl) T.g__law_cell T.F__law_cell.kp T.b__law_cell rfl (da_cons (de_var 4) da_nil) (hfl := (al_cons al_nil))) (de_call (ok__law_cell T) (takes_of rfl rfl rfl rfl) (hr.mono (by decide)) (by rfl) T.g__law_cell T.F__law_cell.kp T.b__law_cell rfl (da_cons (de_var 5) da_nil) (hfl := (al_cons al_nil))))))) (dss_one (ds_ret (de_cmp (or_in (hu65 hr)) (od_in false) (de_var 6) (de_var 0)))) dss_nil) (dss_cons (ds_if (dt_cmp (op_eqD (hu64 hr)) od_eq (de_var 6) de_str) (dss_one (ds_ret (de_cmp (or_in (hu65 hr)) (od_in false) de_str (de_var 0)))) dss_nil) (dss_one (ds_ret (de_or (de_cmp (op_neD (hu64 hr)) od_ne (de_var 6) de_str) (de_one (de_cmp (or_notin (hu65 hr)) (od_in true) de_str (de_var 0))))))))))))))
theorem ok_is_number {P : Program} {w : World} {K : PySem.W.Frag} {mg : Str → Option Value} {base : Heap} (T : Txt K w mg) : FnD P w K mg base 1 T.a_is_number T.d_is_number ["value", "greatest"] m_is_number :=
  fnD_of T.F_is_number sc_is_number fun cdv A outer s H E hr => (dss_one (ds_ret (de_and (de_callB call_isi cd_isi (by rfl) T.n_isinstance (by decide +kernel) (da_cons (de_var 0) (da_cons (de_type (by rfl) T.n_int (by decide +kernel)) da_nil))) (de_and (de_not (de_callB call_isi cd_isi (by rfl) T.n_isinstance (by decide +kernel) (da_cons (de_var 0) (da_cons (de_type (by rfl) T.n_bool (by decide +kernel)) da_nil)))) (de_one (de_chain op_le op_le od_le od_le de_int (de_var 0) (de_var 1)))))))
theorem ok_is_instruction {P : Program} {w : World} {K : PySem.W.Frag} {mg : Str → Option Value} {base : Heap} (T : Txt K w mg) : FnD P w K mg base 2 T.a_is_instruction T.d_is_instruction ["value"] m_is_instruction :=
  fnD_of T.F_is_instruction sc_is_instruction fun cdv A outer s H E hr => (dss_cons (ds_if (dt_w (dw_or (dt_not (dt_tr (de_callB call_isi cd_isi (by rfl) T.n_isinstance (by decide +kernel) (da_cons (de_var 0) (da_cons (de_type (by rfl) T.n_tuple (by decide +kernel)) da_nil))))) (dw_or (dt_cmp (op_eqD (hu64 hr)) od_eq (de_callB call_len cd_len (by rfl) T.n_len (by decide +kernel) (da_cons (de_var 0) da_nil)) de_int) (dw_or1 (dt_not (dt_tr (de_callB call_isi cd_isi (by rfl) T.n_isinstance (by decide +kernel) (da_cons (de_ix ix_seq od_ix (de_var 0) de_int) (da_cons (de_type (by rfl) T.n_str (by decide +kernel)) da_nil))))))))) (dss_one (ds_ret de_bl)) dss_nil) (dss_cons (ds_set 1 sc_is_instruction.nd rfl (by first | exact Or.inl rfl | exact Or.inr rfl) (de_kget T.k_GREATEST T.t_GREATEST (pe_K (by rfl) T.c_GREATEST) (de_ix ix_seq od_ix (de_var 0) de_int) ⟨rfl, rfl, rfl, rfl⟩)) (dss_cons (ds_if (dt_w (dw_or (dt_cmp or_is od_is (de_var 1) de_non) (dw_or1 (dt_cmp (op_neD (hu64 hr)) od_ne (de_callB call_len cd_len (by rfl) T.n_len (by decide +kernel) (da_cons (de_var 0) da_nil)) (de_op or_add od_add de_int (de_callB call_len cd_len (by rfl) T.n_len (by decide +kernel) (da_cons (de_var 1) da_nil))))))) (dss_one (ds_ret de_bl)) dss_nil) (dss_one (ds_ret (de_callB (cr_all rfl) cd_all (by rfl) T.n_all (by decide +kernel) (da_cons (de_comp (own := [("number", 2), ("limit", 3)]) (p := (.tp [(.nm 2), (.nm 3)])) rfl sc_is_instruction.nd (di_zip (by rfl) T.n_zip (da_cons (de_sl (de_var 0) (do_some de_int) do_none) (da_cons (de_var 1) da_nil))) (blkOk_by (N := N_is_instruction) (sc := (defScope s_is_instruction)) (by decide +kernel)) (by decide) (fun _ _ _ _ _ => (dg_tp rfl (dgs_cons (dg_nm (i := 2) sc_is_instruction.nd rfl (by first | exact Or.inl rfl | exact Or.inr rfl)) (dgs_cons (dg_nm (i := 3) sc_is_instruction.nd rfl (by first | exact Or.inl rfl | exact Or.inr rfl)) dgs_nil)))) (fun _ _ _ _ _ => dts_nil) (fun _ _ _ _ _ => (de_call (ok_is_number T) takesF (hr.mono (by decide)) (by rfl) T.g_is_number T.F_is_number.kp T.b_is_number rfl (da_cons (de_var 2) (da_cons (de_var 3) da_nil)) (hfl := (al_cons (al_cons al_nil)))))) da_nil)))))))
theorem ok_is_core {P : Program} {w : World} {K : PySem.W.Frag} {mg : Str → Option Value} {base : Heap} (T : Txt K w mg) : FnD P w K mg base 3 T.a_is_core T.d_is_core ["value"] m_is_core :=
  fnD_of T.F_is_core sc_is_core fun cdv A outer s H E hr => (dss_cons (ds_if (dt_w (dw_or (dt_not (dt_tr (de_callB call_isi cd_isi (by rfl) T.n_isinstance (by decide +kernel) (da_cons (de_var 0) (da_cons (de_type (by rfl) T.n_tuple (by decide +kernel)) da_nil))))) (dw_or1 (dt_cmp op_gt od_gt (de_callB call_len cd_len (by rfl) T.n_len (by decide +kernel) (da_cons (de_var 0) da_nil)) (de_glob (v := .int 5) (by rfl) T.c_MOST_IN_CORE.1 T.c_MOST_IN_CORE.2 (fun _ _ => .int _)))))) (dss_one (ds_ret de_bl)) dss_nil) (dss_one (ds_ret (de_callB (cr_all rfl) cd_all (by rfl) T.n_all (by decide +kernel) (da_cons (de_comp (own := [("item", 1)]) (p := (.nm 1)) rfl sc_is_core.nd (di_seq (de_var 0)) (blkOk_by (N := N_is_core) (sc := (defScope s_is_core)) (by decide +kernel)) (by decide) (fun _ _ _ _ _ => (dg_nm (i := 1) sc_is_core.nd rfl (by first | exact Or.inl rfl | exact Or.inr rfl))) (fun _ _ _ _ _ => dts_nil) (fun _ _ _ _ _ => (de_call (ok_is_instruction T) takesF (hr.mono (by decide)) (by rfl) T.g_is_instruction T.F_is_instruction.kp T.b_is_instruction rfl (da_cons (de_var 1) da_nil) (hfl := (al_cons al_nil))))) da_nil)))))
theorem ok_check_core {P : Program} {w : World} {K : PySem.W.Frag} {mg : Str → Option Value} {base : Heap} (T : Txt K w mg) : FnD P w K mg base 4 T.a_check_core T.d_check_core ["value"] m_check_core :=
  fnD_of T.F_check_core sc_check_core fun cdv A outer s H E hr => (dss_one (ds_if (dt_not (dt_tr (de_call (ok_is_core T) (takes_of rfl rfl rfl rfl) (hr.mono (by decide)) (by rfl) T.g_is_core T.F_is_core.kp T.b_is_core rfl (da_cons (de_var 0) da_nil) (hfl := (al_cons al_nil))))) (dss_one (ds_raise rfl (takes_of rfl rfl rfl rfl) T.x_BadCore (by rfl))) dss_nil))
theorem ok_is_design {P : Program} {w : World} {K : PySem.W.Frag} {mg : Str → Option Value} {base : Heap} (T : Txt K w mg) : FnD P w K mg base 1 T.a_is_design T.d_is_design ["value"] m_is_design :=
  fnD_of T.F_is_design sc_is_design fun cdv A outer s H E hr => (dss_one (ds_ret (de_and (de_callB call_isi cd_isi (by rfl) T.n_isinstance (by decide +kernel) (da_cons (de_var 0) (da_cons (de_type (by rfl) T.n_tuple (by decide +kernel)) da_nil))) (de_one (de_cmp (op_eqD (hu64 hr)) od_eq (de_var 0) (de_callTy call_tuple_of cd_tuple (by rfl) T.n_tuple (by decide +kernel) (da_cons (de_comp (own := [("word", 1)]) (p := (.nm 1)) rfl sc_is_design.nd (di_seq (de_glob (v := .ref T.a_WORDS) (by rfl) T.c_WORDS.1 rfl T.c_WORDS.2)) (blkOk_by (N := N_is_design) (sc := (defScope s_is_design)) (by decide +kernel)) (by decide) (fun _ _ _ _ _ => (dg_nm (i := 1) sc_is_design.nd rfl (by first | exact Or.inl rfl | exact Or.inr rfl))) (fun _ _ _ _ _ => (dts_one (dt_cmp (or_in (hu65 hr)) (od_in false) (de_var 1) (de_var 0)))) (fun _ _ _ _ _ => (de_var 1))) da_nil)))))))
theorem ok_check_design {P : Program} {w : World} {K : PySem.W.Frag} {mg : Str → Option Value} {base : Heap} (T : Txt K w mg) : FnD P w K mg base 2 T.a_check_design T.d_check_design ["value"] m_check_design :=
  fnD_of T.F_check_design sc_check_design fun cdv A outer s H E hr => (dss_one (ds_if (dt_not (dt_tr (de_call (ok_is_design T) (takes_of rfl rfl rfl rfl) (hr.mono (by decide)) (by rfl) T.g_is_design T.F_is_design.kp T.b_is_design rfl (da_cons (de_var 0) da_nil) (hfl := (al_cons al_nil))))) (dss_one (ds_raise rfl (takes_of rfl rfl rfl rfl) T.x_BadDesign (by rfl))) dss_nil))
theorem ok_check_places {P : Program} {w : World} {K : PySem.W.Frag} {mg : Str → Option Value} {base : Heap} (T : Txt K w mg) : FnD P w K mg base 2 T.a_check_places T.d_check_places ["core", "first", "second"] m_check_places :=
  fnD_of T.F_check_places sc_check_places fun cdv A outer s H E hr => (dss_cons (ds_set 3 sc_check_places.nd rfl (by first | exact Or.inl rfl | exact Or.inr rfl) (de_op op_sub od_sub (de_callB call_len cd_len (by rfl) T.n_len (by decide +kernel) (da_cons (de_var 0) da_nil)) de_int)) (dss_one (ds_if (dt_w (dw_or (dt_not (dt_tr (de_call (ok_is_number T) (takes_of rfl rfl rfl rfl) (hr.mono (by decide)) (by rfl) T.g_is_number T.F_is_number.kp T.b_is_number rfl (da_cons (de_var 1) (da_cons (de_var 3) da_nil)) (hfl := (al_cons (al_cons al_nil)))))) (dw_or (dt_not (dt_tr (de_call (ok_is_number T) (takes_of rfl rfl rfl rfl) (hr.mono (by decide)) (by rfl) T.g_is_number T.F_is_number.kp T.b_is_number rfl (da_cons (de_var 2) (da_cons (de_var 3) da_nil)) (hfl := (al_cons (al_cons al_nil)))))) (dw_or1 (dt_cmp op_ge od_ge (de_var 1) (de_var 2)))))) (dss_one (ds_raise rfl (takes_of rfl rfl rfl rfl) T.x_BadPlace (by rfl))) dss_nil)))
theorem ok_is_reading {P : Program} {w : World} {K : PySem.W.Frag} {mg : Str → Option Value} {base : Heap} (T : Txt K w mg) : FnD P w K mg base 1 T.a_is_reading T.d_is_reading ["instruction"] m_is_reading :=
  fnD_of T.F_is_reading sc_is_reading fun cdv A outer s H E hr => (dss_one (ds_ret (de_cmp (op_eqD (hu64 hr)) od_eq (de_ix ix_seq od_ix (de_var 0) de_int) de_str)))
theorem ok_is_writing {P : Program} {w : World} {K : PySem.W.Frag} {mg : Str → Option Value} {base : Heap} (T : Txt K w mg) : FnD P w K mg base 1 T.a_is_writing T.d_is_writing ["instruction"] m_is_writing :=
  fnD_of T.F_is_writing sc_is_writing fun cdv A outer s H E hr => (dss_one (ds_ret (de_cmp (or_in (hu65 hr)) (od_in false) (de_ix ix_seq od_ix (de_var 0) de_int) (de_tup (da_cons de_str (da_cons de_str da_nil))))))
theorem ok_cell_of {P : Program} {w : World} {K : PySem.W.Frag} {mg : Str → Option Value} {base : Heap} (T : Txt K w mg) : FnD P w K mg base 2 T.a_cell_of T.d_cell_of ["instruction"] m_cell_of :=
  fnD_of T.F_cell_of sc_cell_of fun cdv A outer s H E hr => (dss_cons (ds_if (dt_tr (de_call (ok_is_reading T) (takes_of rfl rfl rfl rfl) (hr.mono (by decide)) (by rfl) T.g_is_reading T.F_is_reading.kp T.b_is_reading rfl (da_cons (de_var 0) da_nil) (hfl := (al_cons al_nil)))) (dss_one (ds_ret (de_ix ix_seq od_ix (de_var 0) de_int))) dss_nil) (dss_cons (ds_if (dt_tr (de_call (ok_is_writing T) (takes_of rfl rfl rfl rfl) (hr.mono (by decide)) (by rfl) T.g_is_writing T.F_is_writing.kp T.b_is_writing rfl (da_cons (de_var 0) da_nil) (hfl := (al_cons al_nil)))) (dss_one (ds_ret (de_ix ix_seq od_ix (de_var 0) de_int))) dss_nil) (dss_one (ds_ret de_non))))
theorem ok_is_kept_behind_guard {P : Program} {w : World} {K : PySem.W.Frag} {mg : Str → Option Value} {base : Heap} (T : Txt K w mg) : FnD P w K mg base 2 T.a_is_kept_behind_guard T.d_is_kept_behind_guard ["design", "later"] m_is_kept_behind_guard :=
  fnD_of T.F_is_kept_behind_guard sc_is_kept_behind_guard fun cdv A outer s H E hr => (dss_cons (ds_if (dt_tr (de_call (ok_is_reading T) (takes_of rfl rfl rfl rfl) (hr.mono (by decide)) (by rfl) T.g_is_reading T.F_is_reading.kp T.b_is_reading rfl (da_cons (de_var 1) da_nil) (hfl := (al_cons al_nil)))) (dss_one (ds_ret (de_cmp (or_in (hu65 hr)) (od_in false) de_str (de_var 0)))) dss_nil) (dss_cons (ds_if (dt_tr (de_call (ok_is_writing T) (takes_of rfl rfl rfl rfl) (hr.mono (by decide)) (by rfl) T.g_is_writing T.F_is_writing.kp T.b_is_writing rfl (da_cons (de_var 1) da_nil) (hfl := (al_cons al_nil)))) (dss_one (ds_ret (de_cmp (or_in (hu65 hr)) (od_in false) de_str (de_var 0)))) dss_nil) (dss_one (ds_ret de_bl))))
theorem ok_is_kept_on_cell {P : Program} {w : World} {K : PySem.W.Frag} {mg : Str → Option Value} {base : Heap} (T : Txt K w mg) : FnD P w K mg base 2 T.a_is_kept_on_cell T.d_is_kept_on_cell ["design", "earlier", "later"] m_is_kept_on_cell :=
  fnD_of T.F_is_kept_on_cell sc_is_kept_on_cell fun cdv A outer s H E hr => (dss_cons (ds_if (dt_tr (de_call (ok_is_writing T) (takes_of rfl rfl rfl rfl) (hr.mono (by decide)) (by rfl) T.g_is_writing T.F_is_writing.kp T.b_is_writing rfl (da_cons (de_var 2) da_nil) (hfl := (al_cons al_nil)))) (dss_one (ds_ret de_bl)) dss_nil) (dss_cons (ds_if (dt_tr (de_call (ok_is_writing T) (takes_of rfl rfl rfl rfl) (hr.mono (by decide)) (by rfl) T.g_is_writing T.F_is_writing.kp T.b_is_writing rfl (da_cons (de_var 1) da_nil) (hfl := (al_cons al_nil)))) (dss_one (ds_ret (de_cmp (or_notin (hu65 hr)) (od_in true) de_str (de_var 0)))) dss_nil) (dss_one (ds_ret (de_cmp (or_in (hu65 hr)) (od_in false) de_str (de_var 0))))))
theorem ok_kind_of {P : Program} {w : World} {K : PySem.W.Frag} {mg : Str → Option Value} {base : Heap} (T : Txt K w mg) : FnD P w K mg base 2 T.a_kind_of T.d_kind_of ["instruction"] m_kind_of :=
  fnD_of T.F_kind_of sc_kind_of fun cdv A outer s H E hr => (dss_cons (ds_if (dt_tr (de_call (ok_is_reading T) (takes_of rfl rfl rfl rfl) (hr.mono (by decide)) (by rfl) T.g_is_reading T.F_is_reading.kp T.b_is_reading rfl (da_cons (de_var 0) da_nil) (hfl := (al_cons al_nil)))) (dss_one (ds_ret de_str)) dss_nil) (dss_one (ds_ret de_str)))
theorem ok_last_read {P : Program} {w : World} {K : PySem.W.Frag} {mg : Str → Option Value} {base : Heap} (T : Txt K w mg) : FnD P w K mg base 2 T.a_last_read T.d_last_read ["core", "number", "place"] m_last_read :=
  fnD_of T.F_last_read sc_last_read fun cdv A outer s H E hr => (dss_cons (ds_set 3 sc_last_read.nd rfl (by first | exact Or.inl rfl | exact Or.inr rfl) de_non) (dss_cons (ds_for (p := (.nm 4)) (passes_of rfl) rfl (di_range1 (by rfl) T.n_range (da_cons (de_var 2) da_nil)) (dg_nm (i := 4) sc_last_read.nd rfl (by first | exact Or.inl rfl | exact Or.inr rfl)) (dss_one (ds_if (dt_w (dw_and (dt_tr (de_call (ok_is_reading T) (takes_of rfl rfl rfl rfl) (hr.mono (by decide)) (by rfl) T.g_is_reading T.F_is_reading.kp T.b_is_reading rfl (da_cons (de_ix ix_seq od_ix (de_var 0) (de_var 4)) da_nil) (hfl := (al_cons al_nil)))) (dw_and1 (dt_cmp (op_eqD (hu64 hr)) od_eq (de_ix ix_seq od_ix (de_ix ix_seq od_ix (de_var 0) (de_var 4)) de_int) (de_var 1))))) (dss_one (ds_set 3 sc_last_read.nd rfl (by first | exact Or.inl rfl | exact Or.inr rfl) (de_var 4))) dss_nil))) (dss_one (ds_ret (de_var 3)))))
theorem ok_used_by {P : Program} {w : World} {K : PySem.W.Frag} {mg : Str → Option Value} {base : Heap} (T : Txt K w mg) : FnD P w K mg base 1 T.a_used_by T.d_used_by ["instruction"] m_used_by :=
  fnD_of T.F_used_by sc_used_by fun cdv A outer s H E hr => (dss_cons (ds_if (dt_cmp (op_eqD (hu64 hr)) od_eq (de_ix ix_seq od_ix (de_var 0) de_int) de_str) (dss_one (ds_ret (de_ix ix_seq od_ix (de_var 0) de_int))) dss_nil) (dss_cons (ds_if (dt_cmp (op_eqD (hu64 hr)) od_eq (de_ix ix_seq od_ix (de_var 0) de_int) de_str) (dss_one (ds_ret (de_ix ix_seq od_ix (de_var 0) de_int))) dss_nil) (dss_one (ds_ret de_non))))
theorem ok_is_kept {P : Program} {w : World} {K : PySem.W.Frag} {mg : Str → Option Value} {base : Heap} (T : Txt K w mg) : FnD P w K mg base 3 T.a_is_kept T.d_is_kept ["design", "core", "first", "second"] m_is_kept :=
  fnD_of T.F_is_kept sc_is_kept fun cdv A outer s H E hr => (dss_cons (ds_par (i := 4) (j := 5) rfl sc_is_kept.nd rfl rfl (by decide) rfl rfl (da_cons (de_ix ix_seq od_ix (de_var 1) (de_var 2)) (da_cons (de_ix ix_seq od_ix (de_var 1) (de_var 3)) da_nil)) rfl) (dss_cons (ds_if (dt_w (dw_or (dt_cmp (op_eqD (hu64 hr)) od_eq (de_ix ix_seq od_ix (de_var 4) de_int) de_str) (dw_or1 (dt_cmp (op_eqD (hu64 hr)) od_eq (de_ix ix_seq od_ix (de_var 5) de_int) de_str)))) (dss_one (ds_ret de_bl)) dss_nil) (dss_cons (ds_if (dt_w (dw_and (dt_cmp or_isnot od_isnot (de_call (ok_used_by T) (takes_of rfl rfl rfl rfl) (hr.mono (by decide)) (by rfl) T.g_used_by T.F_used_by.kp T.b_used_by rfl (da_cons (de_var 5) da_nil) (hfl := (al_cons al_nil))) de_non) (dw_and1 (dt_cmp (op_eqD (hu64 hr)) od_eq (de_call (ok_last_read T) (takes_of rfl rfl rfl rfl) (hr.mono (by decide)) (by rfl) T.g_last_read T.F_last_read.kp T.b_last_read rfl (da_cons (de_var 1) (da_cons (de_call (ok_used_by T) (takes_of rfl rfl rfl rfl) (hr.mono (by decide)) (by rfl) T.g_used_by T.F_used_by.kp T.b_used_by rfl (da_cons (de_var 5) da_nil) (hfl := (al_cons al_nil))) (da_cons (de_var 3) da_nil))) (hfl := (al_cons (al_cons (al_cons al_nil))))) (de_var 2))))) (dss_one (ds_ret de_bl)) dss_nil) (dss_cons (ds_if (dt_cmp (op_eqD (hu64 hr)) od_eq (de_ix ix_seq od_ix (de_var 4) de_int) de_str) (dss_one (ds_ret (de_call (ok_is_kept_behind_guard T) (takes_of rfl rfl rfl rfl) (hr.mono (by decide)) (by rfl) T.g_is_kept_behind_guard T.F_is_kept_behind_guard.kp T.b_is_kept_behind_guard rfl (da_cons (de_var 0) (da_cons (de_var 5) da_nil)) (hfl := (al_cons (al_cons al_nil)))))) dss_nil) (dss_cons (ds_if (dt_w (dw_or (dt_cmp or_is od_is (de_call (ok_cell_of T) (takes_of rfl rfl rfl rfl) (hr.mono (by decide)) (by rfl) T.g_cell_of T.F_cell_of.kp T.b_cell_of rfl (da_cons (de_var 4) da_nil) (hfl := (al_cons al_nil))) de_non) (dw_or1 (dt_cmp or_is od_is (de_call (ok_cell_of T) (takes_of rfl rfl rfl rfl) (hr.mono (by decide)) (by rfl) T.g_cell_of T.F_cell_of.kp T.b_cell_of rfl (da_cons (de_var 5) da_nil) (hfl := (al_cons al_nil))) de_non)))) (dss_one (ds_ret de_bl)) dss_nil) (dss_cons (ds_if (dt_cmp (op_eqD (hu64 hr)) od_eq (de_call (ok_cell_of T) (takes_of rfl rfl rfl rfl) (hr.mono (by decide)) (by rfl) T.g_cell_of T.F_cell_of.kp T.b_cell_of rfl (da_cons (de_var 4) da_nil) (hfl := (al_cons al_nil))) (de_call (ok_cell_of T) (takes_of rfl rfl rfl rfl) (hr.mono (by decide)) (by rfl) T.g_cell_of T.F_cell_of.kp T.b_cell_of rfl (da_cons (de_var 5) da_nil) (hfl := (al_cons al_nil)))) (dss_one (ds_ret (de_call (ok_is_kept_on_cell T) (takes_of rfl rfl rfl rfl) (hr.mono (by decide)) (by rfl) T.g_is_kept_on_cell T.F_is_kept_on_cell.kp T.b_is_kept_on_cell rfl (da_cons (de_var 0) (da_cons (de_var 4) (da_cons (de_var 5) da_nil))) (hfl := (al_cons (al_cons (al_cons al_nil))))))) dss_nil) (dss_one (ds_ret (de_cmp (or_in (hu65 hr)) (od_in false) (de_op or_add od_add (de_call (ok_kind_of T) (takes_of rfl rfl rfl rfl) (hr.mono (by decide)) (by rfl) T.g_kind_of T.F_kind_of.kp T.b_kind_of rfl (da_cons (de_var 4) da_nil) (hfl := (al_cons al_nil))) (de_call (ok_kind_of T) (takes_of rfl rfl rfl rfl) (hr.mono (by decide)) (by rfl) T.g_kind_of T.F_kind_of.kp T.b_kind_of rfl (da_cons (de_var 5) da_nil) (hfl := (al_cons al_nil)))) (de_var 0))))))))))
theorem ok_last_writing {P : Program} {w : World} {K : PySem.W.Frag} {mg : Str → Option Value} {base : Heap} (T : Txt K w mg) : FnD P w K mg base 3 T.a_last_writing T.d_last_writing ["core", "cell", "place"] m_last_writing :=
  fnD_of T.F_last_writing sc_last_writing fun cdv A outer s H E hr => (dss_cons (ds_set 3 sc_last_writing.nd rfl (by first | exact Or.inl rfl | exact Or.inr rfl) de_non) (dss_cons (ds_for (p := (.nm 4)) (passes_of rfl) rfl (di_range1 (by rfl) T.n_range (da_cons (de_var 2) da_nil)) (dg_nm (i := 4) sc_last_writing.nd rfl (by first | exact Or.inl rfl | exact Or.inr rfl)) (dss_one (ds_if (dt_w (dw_and (dt_tr (de_call (ok_is_writing T) (takes_of rfl rfl rfl rfl) (hr.mono (by decide)) (by rfl) T.g_is_writing T.F_is_writing.kp T.b_is_writing rfl (da_cons (de_ix ix_seq od_ix (de_var 0) (de_var 4)) da_nil) (hfl := (al_cons al_nil)))) (dw_and1 (dt_cmp (op_eqD (hu64 hr)) od_eq (de_call (ok_cell_of T) (takes_of rfl rfl rfl rfl) (hr.mono (by decide)) (by rfl) T.g_cell_of T.F_cell_of.kp T.b_cell_of rfl (da_cons (de_ix ix_seq od_ix (de_var 0) (de_var 4)) da_nil) (hfl := (al_cons al_nil))) (de_var 1))))) (dss_one (ds_set 3 sc_last_writing.nd rfl (by first | exact Or.inl rfl | exact Or.inr rfl) (de_var 4))) dss_nil))) (dss_one (ds_ret (de_var 3)))))
theorem ok_waits_for_copied {P : Program} {w : World} {K : PySem.W.Frag} {mg : Str → Option Value} {base : Heap} (T : Txt K w mg) : FnD P w K mg base 4 T.a_waits_for_copied T.d_waits_for_copied ["design", "core", "first", "second"] m_waits_for_copied :=
  fnD_of T.F_waits_for_copied sc_waits_for_copied fun cdv A outer s H E hr => (dss_cons (ds_if (dt_w (dw_or (dt_cmp (or_notin (hu65 hr)) (od_in true) de_str (de_var 0)) (dw_or1 (dt_not (dt_tr (de_call (ok_is_reading T) (takes_of rfl rfl rfl rfl) (hr.mono (by decide)) (by rfl) T.g_is_reading T.F_is_reading.kp T.b_is_reading rfl (da_cons (de_ix ix_seq od_ix (de_var 1) (de_var 3)) da_nil) (hfl := (al_cons al_nil)))))))) (dss_one (ds_ret de_bl)) dss_nil) (dss_cons (ds_set 4 sc_waits_for_copied.nd rfl (by first | exact Or.inl rfl | exact Or.inr rfl) (de_call (ok_last_writing T) (takes_of rfl rfl rfl rfl) (hr.mono (by decide)) (by rfl) T.g_last_writing T.F_last_writing.kp T.b_last_writing rfl (da_cons (de_var 1) (da_cons (de_call (ok_cell_of T) (takes_of rfl rfl rfl rfl) (hr.mono (by decide)) (by rfl) T.g_cell_of T.F_cell_of.kp T.b_cell_of rfl (da_cons (de_ix ix_seq od_ix (de_var 1) (de_var 3)) da_nil) (hfl := (al_cons al_nil))) (da_cons (de_var 3) da_nil))) (hfl := (al_cons (al_cons (al_cons al_nil)))))) (dss_cons (ds_if (dt_w (dw_or (dt_cmp or_is od_is (de_var 4) de_non) (dw_or1 (dt_cmp (op_neD (hu64 hr)) od_ne (de_ix ix_seq od_ix (de_ix ix_seq od_ix (de_var 1) (de_var 4)) de_int) de_str)))) (dss_one (ds_ret de_bl)) dss_nil) (dss_one (ds_ret (de_cmp (op_eqD (hu64 hr)) od_eq (de_call (ok_last_read T) (takes_of rfl rfl rfl rfl) (hr.mono (by decide)) (by rfl) T.g_last_read T.F_last_read.kp T.b_last_read rfl (da_cons (de_var 1) (da_cons (de_call (ok_used_by T) (takes_of rfl rfl rfl rfl) (hr.mono (by decide)) (by rfl) T.g_used_by T.F_used_by.kp T.b_used_by rfl (da_cons (de_ix ix_seq od_ix (de_var 1) (de_var 4)) da_nil) (hfl := (al_cons al_nil))) (da_cons (de_var 4) da_nil))) (hfl := (al_cons (al_cons (al_cons al_nil))))) (de_var 2)))))))
theorem ok_must_wait {P : Program} {w : World} {K : PySem.W.Frag} {mg : Str → Option Value} {base : Heap} (T : Txt K w mg) : FnD P w K mg base 5 T.a_must_wait T.d_must_wait ["design", "core", "first", "second"] m_must_wait :=
  fnD_of T.F_must_wait sc_must_wait fun cdv A outer s H E hr => (dss_one (ds_ret (de_or (de_call (ok_is_kept T) (takes_of rfl rfl rfl rfl) (hr.mono (by decide)) (by rfl) T.g_is_kept T.F_is_kept.kp T.b_is_kept rfl (da_cons (de_var 0) (da_cons (de_var 1) (da_cons (de_var 2) (da_cons (de_var 3) da_nil)))) (hfl := (al_cons (al_cons (al_cons (al_cons al_nil)))))) (de_one (de_call (ok_waits_for_copied T) (takes_of rfl rfl rfl rfl) (hr.mono (by decide)) (by rfl) T.g_waits_for_copied T.F_waits_for_copied.kp T.b_waits_for_copied rfl (da_cons (de_var 0) (da_cons (de_var 1) (da_cons (de_var 2) (da_cons (de_var 3) da_nil)))) (hfl := (al_cons (al_cons (al_cons (al_cons al_nil))))))))))
theorem ok_must_be_done {P : Program} {w : World} {K : PySem.W.Frag} {mg : Str → Option Value} {base : Heap} (T : Txt K w mg) : FnD P w K mg base 6 T.a_must_be_done T.d_must_be_done ["design", "core", "first", "second"] m_must_be_done :=
  fnD_of T.F_must_be_done sc_must_be_done fun cdv A outer s H E hr => (dss_cons (ds_expr (de_call (ok_check_design T) (takes_of rfl rfl rfl rfl) (hr.mono (by decide)) (by rfl) T.g_check_design T.F_check_design.kp T.b_check_design rfl (da_cons (de_var 0) da_nil) (hfl := (al_cons al_nil)))) (dss_cons (ds_expr (de_call (ok_check_core T) (takes_of rfl rfl rfl rfl) (hr.mono (by decide)) (by rfl) T.g_check_core T.F_check_core.kp T.b_check_core rfl (da_cons (de_var 1) da_nil) (hfl := (al_cons al_nil)))) (dss_cons (ds_expr (de_call (ok_check_places T) (takes_of rfl rfl rfl rfl) (hr.mono (by decide)) (by rfl) T.g_check_places T.F_check_places.kp T.b_check_places rfl (da_cons (de_var 1) (da_cons (de_var 2) (da_cons (de_var 3) da_nil))) (hfl := (al_cons (al_cons (al_cons al_nil)))))) (dss_one (ds_ret (de_call (ok_must_wait T) (takes_of rfl rfl rfl rfl) (hr.mono (by decide)) (by rfl) T.g_must_wait T.F_must_wait.kp T.b_must_wait rfl (da_cons (de_var 0) (da_cons (de_var 1) (da_cons (de_var 2) (da_cons (de_var 3) da_nil)))) (hfl := (al_cons (al_cons (al_cons (al_cons al_nil)))))))))))
end
end K04

set_option Elab.async false
set_option linter.all false
set_option maxRecDepth 100000
set_option maxHeartbeats 2000000
namespace K04
open PySem PySem.Spec L2 DL
open PyProof.Rows hiding St
open LamX hiding takes0
theorem ok_law {P : Program} {w : World} {K : PySem.W.Frag} {mg : Str → Option Value} {base : Heap} (T : Txt K w mg) (L : LawT K mg base s_law T.a_law T.d_law) : FnD P w K mg base 9 T.a_law T.d_law ["script"] m_law :=
  fnD_ofC L sc_law fun A outer s H E hr => (dss_cons (ds_set 1 sc_law.nd rfl (by first | exact Or.inl rfl | exact Or.inr rfl) (de_lstM (da_cons (de_var 0) (da_cons de_int (da_cons de_int (da_cons de_int da_nil)))))) (dss_cons (ds_set 2 sc_law.nd rfl (by first | exact Or.inl rfl | exact Or.inr rfl) (de_call (ok__law_design T) (takes_of rfl rfl rfl rfl) (hr.mono (by decide)) (by rfl) T.g__law_design T.F__law_design.kp T.b__law_design rfl (da_cons (de_var 1) da_nil) (hfl := (al_cons al_nil)))) (dss_cons (ds_set 3 sc_law.nd rfl (by first | exact Or.inl rfl | exact Or.inr rfl) (de_callTy call_tuple_of cd_tuple (by rfl) T.n_tuple (by decide +kernel) (da_cons (de_comp (own := [("turn", 10)]) (p := (.nm 10)) rfl sc_law.nd (di_range1 (by rfl) T.n_range (da_cons (de_op or_add od_add de_int (de_call (ok__law_taken T) (takes_of rfl rfl rfl rfl) (hr.mono (by decide)) (by rfl) T.g__law_taken T.F__law_taken.kp T.b__law_taken rfl (da_cons (de_var 1) (da_cons de_int da_nil)) (hfl := (al_cons (al_cons al_nil))))) da_nil)) (blkOk_by (N := N_law) (sc := (defScope s_law)) (by decide +kernel)) (by decide) (fun _ _ _ _ _ => (dg_nm (i := 10) sc_law.nd rfl (by first | exact Or.inl rfl | exact Or.inr rfl))) (fun _ _ _ _ _ => dts_nil) (fun _ _ _ _ _ => (de_call (ok__law_instruction T) takesF (hr.mono (by decide)) (by rfl) T.g__law_instruction T.F__law_instruction.kp T.b__law_instruction rfl (da_cons (de_var 1) da_nil) (hfl := (al_cons al_nil))))) da_nil))) (dss_cons (ds_for (p := (.nm 4)) (passes_of rfl) rfl (di_range1 (by rfl) T.n_range (da_cons (de_callB call_len cd_len (by rfl) T.n_len (by decide +kernel) (da_cons (de_var 3) da_nil)) da_nil)) (dg_nm (i := 4) sc_law.nd rfl (by first | exact Or.inl rfl | exact Or.inr rfl)) (dss_one (ds_for (p := (.nm 5)) (passes_of rfl) rfl (di_range1 (by rfl) T.n_range (da_cons (de_var 4) da_nil)) (dg_nm (i := 5) sc_law.nd rfl (by first | exact Or.inl rfl | exact Or.inr rfl)) (dss_one (ds_if (dt_not (dt_tr (de_call (ok__law_alike T) (takes_of rfl rfl rfl rfl) (hr.mono (by decide)) (by rfl) T.g__law_alike T.F__law_alike.kp T.b__law_alike rfl (da_cons (de_call (ok_must_be_done T) (takes_of rfl rfl rfl rfl) (hr.mono (by decide)) (by rfl) T.g_must_be_done T.F_must_be_done.kp T.b_must_be_done rfl (da_cons (de_var 2) (da_cons (de_var 3) (da_cons (de_var 5) (da_cons (de_var 4) da_nil)))) (hfl := (al_cons (al_cons (al_cons (al_cons al_nil)))))) (da_cons (de_call (ok__law_must T) (takes_of rfl rfl rfl rfl) (hr.mono (by decide)) (by rfl) T.g__law_must T.F__law_must.kp T.b__law_must rfl (da_cons (de_var 2) (da_cons (de_var 3) (da_cons (de_var 5) (da_cons (de_var 4) da_nil)))) (hfl := (al_cons (al_cons (al_cons (al_cons al_nil)))))) da_nil)) (hfl := (al_cons (al_cons al_nil)))))) (dss_one (ds_ret de_bl)) dss_nil))))) (dss_cons (ds_set 6 sc_law.nd rfl (by first | exact Or.inl rfl | exact Or.inr rfl) (de_call (ok__law_pick T) (takes_of rfl rfl rfl rfl) (hr.mono (by decide)) (by rfl) T.g__law_pick T.F__law_pick.kp T.b__law_pick rfl (da_cons (de_var 1) (da_cons (de_lst (da_cons de_non (da_cons (de_callTy call_list_of cd_list (by rfl) T.n_list (by decide +kernel) (da_cons (de_var 3) da_nil)) (da_cons (de_op op_repT od_rep (de_var 3) de_int) (da_cons (de_op or_add od_add (de_var 3) (de_tup (da_cons de_non da_nil))) (da_cons (de_tup (da_cons (de_tup (da_cons de_str (da_cons de_int (da_cons de_int da_nil)))) da_nil)) (da_cons (de_tup (da_cons (de_tup (da_cons de_str (da_cons de_int (da_cons de_int da_nil)))) da_nil)) (da_cons (de_tup (da_cons (de_tup (da_cons de_str (da_cons de_int (da_cons de_int da_nil)))) da_nil)) (da_cons (de_tup (da_cons (de_tup (da_cons de_str (da_cons de_int da_nil))) da_nil)) (da_cons de_str da_nil)))))))))) da_nil)) (hfl := (al_cons (al_cons al_nil))))) (dss_cons (ds_if (dt_cmp (op_neD (hu64 hr)) od_ne (de_wrong (k := 6) (Ng := N__law_wrong) (R := wr_R T) (z := .str "") (tw := wr_tab) (dz := .str "") T.F__law_wrong T.b__law_wrong sc__law_wrong rfl (.inl rfl) (by rfl) T.g__law_wrong (fun cdv => gives_w (P := P) (base := base) T _ rfl rfl cdv) L.tb rfl rfl (hr.mono (by decide)) (lamS_by (sc := defScope s_law) (by decide +kernel)) rfl (fun _ _ _ _ _ => rfl) (wr_ok T) (fun _ _ => .str _) (by rfl) (fun _ _ _ _ _ _ _ hr => (de_call (ok_must_be_done T) (takes_of rfl rfl rfl rfl) (hr.mono (by decide)) (by rfl) T.g_must_be_done T.F_must_be_done.kp T.b_must_be_done rfl (da_cons (de_var 2) (da_cons (de_var 6) (da_cons de_non (da_cons de_non da_nil)))) (hfl := (al_cons (al_cons (al_cons (al_cons al_nil)))))))) de_str) (dss_one (ds_ret de_bl)) dss_nil) (dss_cons (ds_set 7 sc_law.nd rfl (by first | exact Or.inl rfl | exact Or.inr rfl) (de_lst (da_cons (de_tup (da_cons de_non (da_cons de_int da_nil))) (da_cons (de_tup (da_cons (de_un un_neg ud_neg de_int) (da_cons de_int da_nil))) (da_cons (de_tup (da_cons (de_callB call_len cd_len (by rfl) T.n_len (by decide +kernel) (da_cons (de_var 3) da_nil)) (da_cons de_int da_nil))) (da_cons (de_tup (da_cons de_bl (da_cons de_int da_nil))) (da_cons (de_tup (da_cons de_int (da_cons de_int da_nil))) (da_cons (de_tup (da_cons de_int (da_cons de_int da_nil))) (da_cons (de_tup (da_cons de_int (da_cons (de_callB call_len cd_len (by rfl) T.n_len (by decide +kernel) (da_cons (de_var 3) da_nil)) da_nil))) (da_cons (de_tup (da_cons de_int (da_cons de_non da_nil))) (da_cons (de_tup (da_cons de_int (da_cons de_bl da_nil))) (da_cons (de_tup (da_cons de_str (da_cons de_int da_nil))) da_nil)))))))))))) (dss_cons (ds_pat (p := (.tp [(.nm 8), (.nm 9)])) (de_ix ix_seq od_ix (de_var 7) (de_call (ok__law_taken T) (takes_of rfl rfl rfl rfl) (hr.mono (by decide)) (by rfl) T.g__law_taken T.F__law_taken.kp T.b__law_taken rfl (da_cons (de_var 1) (da_cons de_int da_nil)) (hfl := (al_cons (al_cons al_nil))))) (dg_tp rfl (dgs_cons (dg_nm (i := 8) sc_law.nd rfl (by first | exact Or.inl rfl | exact Or.inr rfl)) (dgs_cons (dg_nm (i := 9) sc_law.nd rfl (by first | exact Or.inl rfl | exact Or.inr rfl)) dgs_nil)))) (dss_cons (ds_if (dt_cmp (op_neD (hu64 hr)) od_ne (de_wrong (k := 6) (Ng := N__law_wrong) (R := wr_R T) (z := .str "") (tw := wr_tab) (dz := .str "") T.F__law_wrong T.b__law_wrong sc__law_wrong rfl (.inl rfl) (by rfl) T.g__law_wrong (fun cdv => gives_w (P := P) (base := base) T _ rfl rfl cdv) L.tb rfl rfl (hr.mono (by decide)) (lamS_by (sc := defScope s_law) (by decide +kernel)) rfl (fun _ _ _ _ _ => rfl) (wr_ok T) (fun _ _ => .str _) (by rfl) (fun _ _ _ _ _ _ _ hr => (de_call (ok_must_be_done T) (takes_of rfl rfl rfl rfl) (hr.mono (by decide)) (by rfl) T.g_must_be_done T.F_must_be_done.kp T.b_must_be_done rfl (da_cons (de_var 2) (da_cons (de_var 3) (da_cons (de_var 8) (da_cons (de_var 9) da_nil)))) (hfl := (al_cons (al_cons (al_cons (al_cons al_nil)))))))) de_str) (dss_one (ds_ret de_bl)) dss_nil) (dss_one (ds_ret (de_cmp (op_eqD (hu64 hr)) od_eq (de_wrong (k := 6) (Ng := N__law_wrong) (R := wr_R T) (z := .str "") (tw := wr_tab) (dz := .str "") T.F__law_wrong T.b__law_wrong sc__law_wrong rfl (.inl rfl) (by rfl) T.g__law_wrong (fun cdv => gives_w (P := P) (base := base) T _ rfl rfl cdv) L.tb rfl rfl (hr.mono (by decide)) (lamS_by (sc := defScope s_law) (by decide +kernel)) rfl (fun _ _ _ _ _ => rfl) (wr_ok T) (fun _ _ => .str _) (by rfl) (fun _ _ _ _ _ _ _ hr => (de_call (ok_must_be_done T) (takes_of rfl rfl rfl rfl) (hr.mono (by decide)) (by rfl) T.g_must_be_done T.F_must_be_done.kp T.b_must_be_done rfl (da_cons (de_call (ok__law_pick T) (takes_of rfl rfl rfl rfl) (hr.mono (by decide)) (by rfl) T.g__law_pick T.F__law_pick.kp T.b__law_pick rfl (da_cons (de_var 1) (da_cons (de_lst (da_cons de_non (da_cons (de_lst (da_cons de_str da_nil)) (da_cons (de_tup (da_cons de_str (da_cons de_str da_nil))) (da_cons (de_tup (da_cons de_str (da_cons de_str da_nil))) (da_cons (de_tup (da_cons de_str da_nil)) (da_cons de_str da_nil))))))) da_nil)) (hfl := (al_cons (al_cons al_nil)))) (da_cons de_non (da_cons de_non (da_cons de_non da_nil)))) (hfl := (al_cons (al_cons (al_cons (al_cons al_nil)))))))) de_str))))))))))))
end K04

set_option Elab.async false
set_option linter.all false
set_option maxRecDepth 100000
set_option maxHeartbeats 2000000
namespace K04
open PySem PySem.Spec L2 DL
open PyProof.Rows hiding St
@[simp] theorem o_ixn1 {x : SO} {l : List D} {r : List SO} {i : Int} : mIx (.ref 1) (.int i) (x :: .lst l :: r) = atI l i := rfl
@[simp] theorem put_ref1 {x : SO} {l : List D} {r : List SO} {n : Nat} {v : D} {ρ : DL.Env} (h : n < l.length) : putOut (.ref 1) (.int (no_index (@OfNat.ofNat Int n _))) v ρ (x :: .lst l :: r) = .ok (.nx ρ) (x :: .lst (l.set n v) :: r) := by
  have hk : ixN l.length ((n : Nat) : Int) = some n := by
    unfold ixN
    rw [if_pos (Int.natCast_nonneg n), if_pos (by omega)]
    rfl
  exact put_at (st := x :: .lst l :: r) (n := 1) (k := n) rfl hk
/-- the script, as a list or as a list that is only read -/
structure Scr (ns : List Int) (sc : D) : Prop where
  ix : ∀ i st, mIx sc (.int i) st = atI (ns.map D.int) i
  len : ∀ st, mLen [sc] st = some (.int ns.length)
theorem scr_of {ns : List Int} {sc : D} (h : sc = .ro (ns.map D.int) ∨ sc = .lst (ns.map D.int)) : Scr ns sc := by
  rcases h with rfl | rfl <;> exact ⟨fun _ _ => rfl, fun _ => by simp⟩
/-- the draws' row, the first of the written things -/
abbrev rowS (sc : D) (p q c : Int) : SO := .lst [sc, .int p, .int q, .int c]
theorem taken_go (ns : List Int) (sc : D) (hS : Scr ns sc) (t : SO) (many : Int) (h : 0 < many) (h2 : many < 1000) (p q c : Int) (r : Sto) (hp : 0 ≤ p) :
    ∃ f p' q' c', m__law_taken [.ref 1, .int many] (t :: rowS sc p q c :: r) = .ok (.int f) (t :: rowS sc p' q' c' :: r) ∧ 0 ≤ f ∧ f < many ∧ 0 ≤ p' := by
  unfold m__law_taken
  obtain ⟨hI, hL⟩ := hS
  have hm : many < 1073741824 := by omega
  by_cases hc : 0 < c
  · simp [g__law_taken, hc, h, hm]
    exact ⟨_, _, ⟨rfl, rfl⟩, Int.emod_nonneg _ (by omega), Int.emod_lt_of_pos _ h, hp⟩
  · by_cases hl : ns.length < p + 1
    · simp [g__law_taken, hc, h, hl, hI, hL]
      exact ⟨_, _, ⟨rfl, rfl⟩, Int.emod_nonneg _ (by omega), Int.emod_lt_of_pos _ h, by omega⟩
    · have hi : p.toNat < ns.length := by omega
      have hx : atI (ns.map D.int) p = some (.int ns[p.toNat]) := atI_nat' hp (by simp [hi])
      generalize ns[p.toNat] = x at hx
      by_cases hb : 1000000000000000000 ≤ x
      · simp [g__law_taken, hc, h, hl, hx, hm, hb, hI, hL]
        exact ⟨_, _, ⟨rfl, rfl⟩, Int.emod_nonneg _ (by omega), Int.emod_lt_of_pos _ h, by omega⟩
      · simp [g__law_taken, hc, h, hl, hx, hm, hb, hI, hL]
        exact ⟨_, _, ⟨rfl, rfl⟩, Int.emod_nonneg _ (by omega), Int.emod_lt_of_pos _ h, by omega⟩
theorem pick_go (ns : List Int) (sc : D) (hS : Scr ns sc) (t : SO) (l : List D) (h : 0 < l.length) (h2 : l.length < 1000) (p q c : Int) (r : Sto) (hp : 0 ≤ p) :
    ∃ x p' q' c', m__law_pick [.ref 1, .lst l] (t :: rowS sc p q c :: r) = .ok x (t :: rowS sc p' q' c' :: r) ∧ x ∈ l ∧ 0 ≤ p' := by
  obtain ⟨f, p', q', c', e, h0, h1, hp'⟩ := taken_go ns sc hS t l.length (by omega) (by omega) p q c r hp
  have hi : f.toNat < l.length := by omega
  have hx : atI l f = some l[f.toNat] := atI_nat' h0 (by simp [hi])
  refine ⟨l[f.toNat], p', q', c', ?_, List.getElem_mem hi, hp'⟩
  simp [m__law_pick, g__law_pick, e, hx]
/-- an instruction -/
inductive Ins where
  | rd (r x : Int) | wr (x n : Int) | cp (x r : Int) | fn | gd (r n : Int)
def Ins.enc : Ins → D
  | .rd r x => .tup [.str "read", .int r, .int x]
  | .wr x n => .tup [.str "write", .int x, .int n]
  | .cp x r => .tup [.str "copy", .int x, .int r]
  | .fn => .tup [.str "fence"]
  | .gd r n => .tup [.str "guard", .int r, .int n]
def Ins.ok : Ins → Prop
  | .rd r x => (0 ≤ r ∧ r ≤ 1) ∧ (0 ≤ x ∧ x ≤ 2)
  | .wr x n => (0 ≤ x ∧ x ≤ 2) ∧ (0 ≤ n ∧ n ≤ 9)
  | .cp x r => (0 ≤ x ∧ x ≤ 2) ∧ (0 ≤ r ∧ r ≤ 1)
  | .fn => True
  | .gd r n => (0 ≤ r ∧ r ≤ 1) ∧ (0 ≤ n ∧ n ≤ 9)
theorem ins_go (ns : List Int) (sc : D) (hS : Scr ns sc) (t : SO) (p q c : Int) (r : Sto) (hp : 0 ≤ p) :
    ∃ i p' q' c', m__law_instruction [.ref 1] (t :: rowS sc p q c :: r) = .ok (Ins.enc i) (t :: rowS sc p' q' c' :: r) ∧ i.ok ∧ 0 ≤ p' := by
  obtain ⟨x, p1, q1, c1, e, hx, hp1⟩ := pick_go ns sc hS t [.str "read", .str "read", .str "read", .str "write", .str "write", .str "write", .str "copy", .str "fence", .str "guard"] (by decide) (by decide) p q c r hp
  obtain ⟨a, p2, q2, c2, e2, a0, a1, hp2⟩ := taken_go ns sc hS t 2 (by decide) (by decide) p1 q1 c1 r hp1
  obtain ⟨b, p3, q3, c3, e3, b0, b1, hp3⟩ := taken_go ns sc hS t 2 (by decide) (by decide) p2 q2 c2 r hp2
  obtain ⟨d, p4, q4, c4, e4, d0, d1, hp4⟩ := taken_go ns sc hS t 3 (by decide) (by decide) p2 q2 c2 r hp2
  simp only [List.mem_cons, List.not_mem_nil, or_false] at hx
  rcases hx with rfl | rfl | rfl | rfl | rfl | rfl | rfl | rfl | rfl
  · exact ⟨.rd a b, p3, q3, c3, by simp [m__law_instruction, g__law_instruction, e, e2, e3, Ins.enc], ⟨by omega, by omega⟩, hp3⟩
  · exact ⟨.rd a b, p3, q3, c3, by simp [m__law_instruction, g__law_instruction, e, e2, e3, Ins.enc], ⟨by omega, by omega⟩, hp3⟩
  · exact ⟨.rd a b, p3, q3, c3, by simp [m__law_instruction, g__law_instruction, e, e2, e3, Ins.enc], ⟨by omega, by omega⟩, hp3⟩
  · exact ⟨.wr a (1 + d), p4, q4, c4, by simp [m__law_instruction, g__law_instruction, e, e2, e4, Ins.enc], ⟨by omega, by omega⟩, hp4⟩
  · exact ⟨.wr a (1 + d), p4, q4, c4, by simp [m__law_instruction, g__law_instruction, e, e2, e4, Ins.enc], ⟨by omega, by omega⟩, hp4⟩
  · exact ⟨.wr a (1 + d), p4, q4, c4, by simp [m__law_instruction, g__law_instruction, e, e2, e4, Ins.enc], ⟨by omega, by omega⟩, hp4⟩
  · exact ⟨.cp a b, p3, q3, c3, by simp [m__law_instruction, g__law_instruction, e, e2, e3, Ins.enc], ⟨by omega, by omega⟩, hp3⟩
  · exact ⟨.fn, p1, q1, c1, by simp [m__law_instruction, g__law_instruction, e, Ins.enc], trivial, hp1⟩
  · exact ⟨.gd a b, p3, q3, c3, by simp [m__law_instruction, g__law_instruction, e, e2, e3, Ins.enc], ⟨by omega, by omega⟩, hp3⟩
/-- the words of a design -/
abbrev words8 : List Str := ["gr", "gw", "own", "rr", "rw", "ss", "wr", "ww"]
theorem design_comp (ns : List Int) (sc : D) (hS : Scr ns sc) (t : SO) : ∀ (ws : List Str) (p q c : Int) (r : Sto), 0 ≤ p →
    ∃ (sub : List Str) (p' q' c' : Int), compGo [some (.ref 1), none] (.nm 1) (gBl (gOp mEq (gCall m__law_taken (aCons (gVar 0) (aCons (gC (.int 2)) aNil))) (gC (.int 0)))) (gVar 1) (ws.map D.str) (t :: rowS sc p q c :: r) = .ok (sub.map D.str) (t :: rowS sc p' q' c' :: r) ∧ sub.Sublist ws ∧ 0 ≤ p'
  | [], p, q, c, r, hp => ⟨[], p, q, c, rfl, .slnil, hp⟩
  | w :: ws, p, q, c, r, hp => by
    obtain ⟨f, p1, q1, c1, e, f0, f1, hp1⟩ := taken_go ns sc hS t 2 (by decide) (by decide) p q c r hp
    obtain ⟨sub, p2, q2, c2, e2, hs, hp2⟩ := design_comp ns sc hS t ws p1 q1 c1 r hp1
    by_cases hf : f = 0
    · exact ⟨w :: sub, p2, q2, c2, by simp [k_nm, e, e2, hf], hs.cons_cons _, hp2⟩
    · exact ⟨sub, p2, q2, c2, by simp [k_nm, e, e2, hf], hs.cons _, hp2⟩
theorem design_go (ns : List Int) (sc : D) (hS : Scr ns sc) (t : SO) (p q c : Int) (r : Sto) (hp : 0 ≤ p) :
    ∃ (sub : List Str) (p' q' c' : Int), m__law_design [.ref 1] (t :: rowS sc p q c :: r) = .ok (.tup (sub.map D.str)) (t :: rowS sc p' q' c' :: r) ∧ sub.Sublist words8 ∧ 0 ≤ p' := by
  obtain ⟨sub, p1, q1, c1, e, hs, hp1⟩ := design_comp ns sc hS t words8 p q c r hp
  refine ⟨sub, p1, q1, c1, ?_, hs, hp1⟩
  simp only [List.map_cons, List.map_nil] at e
  simp [m__law_design, g__law_design, e]
end K04

set_option Elab.async false
set_option linter.all false
set_option maxRecDepth 100000
set_option maxHeartbeats 2000000
namespace K04
open PySem PySem.Spec L2 DL
open PyProof.Rows hiding St
def Ins.isRd : Ins → Bool | .rd _ _ => true | _ => false
def Ins.isWr : Ins → Bool | .wr _ _ => true | .cp _ _ => true | _ => false
def Ins.cell : Ins → D | .rd _ x => .int x | .wr x _ => .int x | .cp x _ => .int x | _ => .non
def Ins.used : Ins → D | .cp _ r => .int r | .gd r _ => .int r | _ => .non
section
variable (i : Ins) (st : Sto)
theorem reading_go : m_is_reading [i.enc] st = .ok (.bl i.isRd) st := by cases i <;> simp [m_is_reading, g_is_reading, Ins.enc, Ins.isRd]
theorem writing_go : m_is_writing [i.enc] st = .ok (.bl i.isWr) st := by cases i <;> simp [m_is_writing, g_is_writing, Ins.enc, Ins.isWr, in_tup]
theorem cell_go : m_cell_of [i.enc] st = .ok i.cell st := by cases i <;> simp [m_cell_of, g_cell_of, reading_go, writing_go, Ins.isRd, Ins.isWr, Ins.cell] <;> simp [Ins.enc]
theorem used_go : m_used_by [i.enc] st = .ok i.used st := by cases i <;> simp [m_used_by, g_used_by, Ins.enc, Ins.used]
theorem instr_go (h : i.ok) : m_is_instruction [i.enc] st = .ok (.bl true) st := by
  have number_go : ∀ (v g : Int) (st : Sto), m_is_number [.int v, .int g] st = .ok (.bl (decide (0 ≤ v ∧ v ≤ g))) st := fun v g st => by
    by_cases h : 0 ≤ v
    · simp [m_is_number, g_is_number, isiB, h]
    · simp [m_is_number, g_is_number, isiB, h]
  cases i <;> simp [Ins.ok] at h <;> simp [Ins.enc, m_is_instruction, g_is_instruction, isiB, t_GREATEST, List.lookup, k_t2, number_go]
  all_goals omega
end
def tst (p : Ins → Bool) (c : List Ins) (k : Nat) : Bool := match c[k]? with | some i => p i | none => false
/-- the last place below k at which a test holds -/
def lastP (p : Ins → Bool) (c : List Ins) : Nat → Option Nat
  | 0 => none
  | k + 1 => if tst p c k = true then some k else lastP p c k
def Ins.kind : Ins → Str | .rd _ _ => "read" | .wr _ _ => "write" | .cp _ _ => "copy" | .fn => "fence" | .gd _ _ => "guard"
section
variable {r x n : Int} {st : Sto} {i : Ins}
@[simp] theorem ix_e0 : mIx i.enc (.int 0) st = some (.str i.kind) := by cases i <;> rfl
@[simp] theorem ix_rd1 : mIx (Ins.rd r x).enc (.int 1) st = some (.int r) := rfl
@[simp] theorem ix_rd2 : mIx (Ins.rd r x).enc (.int 2) st = some (.int x) := rfl
@[simp] theorem ix_wr1 : mIx (Ins.wr x n).enc (.int 1) st = some (.int x) := rfl
@[simp] theorem ix_cp1 : mIx (Ins.cp x r).enc (.int 1) st = some (.int x) := rfl
@[simp] theorem ix_cp2 : mIx (Ins.cp x r).enc (.int 2) st = some (.int r) := rfl
@[simp] theorem ix_gd1 : mIx (Ins.gd r n).enc (.int 1) st = some (.int r) := rfl
end
def optN : Option Nat → D | none => .non | some k => .int (k : Int)
def rdP (n : Int) : Ins → Bool | .rd r _ => decide (r = n) | _ => false
def wrP (n : Int) : Ins → Bool | .wr x _ => decide (x = n) | .cp x _ => decide (x = n) | _ => false
@[simp] theorem optN_some {k : Nat} : optN (some k) = .int (k : Int) := rfl
@[simp] theorem optN_none : optN none = .non := rfl
theorem ints_snoc (k : Nat) : intsD 0 (k + 1) = intsD 0 k ++ [.int (k : Int)] := by
  simp [intsD, List.range_succ]
theorem ix_core {c : List Ins} {k : Nat} (h : k < c.length) : atI (c.map Ins.enc) ((k : Nat) : Int) = some (c[k]).enc := atI_nat (by simp [h])
def stepP (p : Ins → Bool) (c : List Ins) (f : Option Nat) (k : Nat) : Option Nat := if tst p c k then some k else f
theorem lastP_fold (p : Ins → Bool) (c : List Ins) : ∀ k, lastP p c k = (List.range k).foldl (stepP p c) none
  | 0 => rfl
  | k + 1 => by
    rw [List.range_succ, List.foldl_append, ← lastP_fold p c k]
    rfl
theorem lastP_lt {p : Ins → Bool} {c : List Ins} : ∀ {k m : Nat}, lastP p c k = some m → m < k ∧ tst p c m = true
  | 0, _, h => by cases h
  | k + 1, m, h => by
    unfold lastP at h
    split at h
    · rename_i ht
      cases h
      exact ⟨Nat.lt_succ_self _, ht⟩
    · have := lastP_lt h
      exact ⟨by omega, this.2⟩
theorem ints_map (k : Nat) : intsD 0 k = (List.range k).map fun j : Nat => D.int (j : Int) := by simp [intsD]
theorem tst_at {p : Ins → Bool} {c : List Ins} {k : Nat} (h : k < c.length) : tst p c k = p c[k] := by simp [tst, h]
theorem lr_loop (c : List Ins) (n : Int) (kk : Option D) (st : Sto) : ∀ (l : List Nat), (∀ j ∈ l, j < c.length) → ∀ (f : Option Nat) (z : Option D), ∃ z',
    forGo (.nm 4) (sIf (gTAnd (gTr (gCall m_is_reading (aCons (gOp mIx (gVar 0) (gVar 4)) aNil))) (gBl (gOp mEq (gOp mIx (gOp mIx (gVar 0) (gVar 4)) (gC (.int 1))) (gVar 1)))) (sSet 3 (gVar 4)) sNext) (l.map fun j : Nat => D.int (j : Int)) [some (.tup (c.map Ins.enc)), some (.int n), kk, some (optN f), z] st
      = .ok (.nx [some (.tup (c.map Ins.enc)), some (.int n), kk, some (optN (l.foldl (stepP (rdP n) c) f)), z']) st
  | [], _, f, z => ⟨z, rfl⟩
  | j :: l, h, f, z => by
    have hj := h j List.mem_cons_self
    obtain ⟨z', e⟩ := lr_loop c n kk st l (fun x hx => h x (List.mem_cons_of_mem _ hx)) (stepP (rdP n) c f j) (some (.int (j : Int)))
    refine ⟨z', ?_⟩
    rw [List.foldl_cons, ← e, List.map_cons]
    have hx := ix_core hj
    have ht : tst (rdP n) c j = rdP n c[j] := tst_at hj
    generalize c[j] = i at hx ht
    unfold stepP
    rw [ht]
    cases i with
    | rd r x =>
      by_cases hr : r = n
      · simp [forGo, Pat.set, hx, reading_go, Ins.isRd, rdP, hr]
      · simp [forGo, Pat.set, hx, reading_go, Ins.isRd, rdP, hr]
    | wr x n => simp [forGo, Pat.set, hx, reading_go, Ins.isRd, rdP]
    | cp x n => simp [forGo, Pat.set, hx, reading_go, Ins.isRd, rdP]
    | fn => simp [forGo, Pat.set, hx, reading_go, Ins.isRd, rdP]
    | gd x n => simp [forGo, Pat.set, hx, reading_go, Ins.isRd, rdP]
theorem last_read_go (c : List Ins) (n : Int) (k : Nat) (hk : k ≤ c.length) (h9 : k ≤ 1000) (st : Sto) : m_last_read [.tup (c.map Ins.enc), .int n, .int (k : Int)] st = .ok (optN (lastP (rdP n) c k)) st := by
  obtain ⟨z', e⟩ := lr_loop c n (some (.int (k : Int))) st (List.range k) (fun j hj => Nat.lt_of_lt_of_le (List.mem_range.mp hj) hk) none none
  rw [← lastP_fold, ← ints_map] at e
  have h1 : ((k : Nat) : Int) ≤ 1000000 := by omega
  have h2 : (-1000000 : Int) ≤ k := by omega
  simp only [optN_none] at e
  simp [m_last_read, g_last_read, h1, h2, e]
theorem lw_loop (c : List Ins) (n : Int) (kk : Option D) (st : Sto) : ∀ (l : List Nat), (∀ j ∈ l, j < c.length) → ∀ (f : Option Nat) (z : Option D), ∃ z',
    forGo (.nm 4) (sIf (gTAnd (gTr (gCall m_is_writing (aCons (gOp mIx (gVar 0) (gVar 4)) aNil))) (gBl (gOp mEq (gCall m_cell_of (aCons (gOp mIx (gVar 0) (gVar 4)) aNil)) (gVar 1)))) (sSet 3 (gVar 4)) sNext) (l.map fun j : Nat => D.int (j : Int)) [some (.tup (c.map Ins.enc)), some (.int n), kk, some (optN f), z] st
      = .ok (.nx [some (.tup (c.map Ins.enc)), some (.int n), kk, some (optN (l.foldl (stepP (wrP n) c) f)), z']) st
  | [], _, f, z => ⟨z, rfl⟩
  | j :: l, h, f, z => by
    have hj := h j List.mem_cons_self
    obtain ⟨z', e⟩ := lw_loop c n kk st l (fun x hx => h x (List.mem_cons_of_mem _ hx)) (stepP (wrP n) c f j) (some (.int (j : Int)))
    refine ⟨z', ?_⟩
    rw [List.foldl_cons, ← e, List.map_cons]
    have hx := ix_core hj
    have ht : tst (wrP n) c j = wrP n c[j] := tst_at hj
    generalize c[j] = i at hx ht
    unfold stepP
    rw [ht]
    cases i with
    | rd r x => simp [forGo, Pat.set, hx, writing_go, Ins.isWr, wrP]
    | wr x m =>
      by_cases hr : x = n
      · simp [forGo, Pat.set, hx, writing_go, Ins.isWr, wrP, hr, cell_go, Ins.cell]
      · simp [forGo, Pat.set, hx, writing_go, Ins.isWr, wrP, hr, cell_go, Ins.cell]
    | cp x m =>
      by_cases hr : x = n
      · simp [forGo, Pat.set, hx, writing_go, Ins.isWr, wrP, hr, cell_go, Ins.cell]
      · simp [forGo, Pat.set, hx, writing_go, Ins.isWr, wrP, hr, cell_go, Ins.cell]
    | fn => simp [forGo, Pat.set, hx, writing_go, Ins.isWr, wrP]
    | gd x n => simp [forGo, Pat.set, hx, writing_go, Ins.isWr, wrP]
theorem last_writing_go (c : List Ins) (n : Int) (k : Nat) (hk : k ≤ c.length) (h9 : k ≤ 1000) (st : Sto) : m_last_writing [.tup (c.map Ins.enc), .int n, .int (k : Int)] st = .ok (optN (lastP (wrP n) c k)) st := by
  obtain ⟨z', e⟩ := lw_loop c n (some (.int (k : Int))) st (List.range k) (fun j hj => Nat.lt_of_lt_of_le (List.mem_range.mp hj) hk) none none
  rw [← lastP_fold, ← ints_map] at e
  have h1 : ((k : Nat) : Int) ≤ 1000000 := by omega
  have h2 : (-1000000 : Int) ≤ k := by omega
  simp only [optN_none] at e
  simp [m_last_writing, g_last_writing, h1, h2, e]
/-! the law's own last place -/
def lastL (p : Ins → Bool) (c : List Ins) (k : Nat) : List D := match lastP p c k with
  | some m => [.int (m : Int)]
  | none => []
theorem cut_last (l : List D) (d : D) : DL.cutD (l ++ [d]) (some (-1)) none = [d] := by
  unfold DL.cutD HT.sIx
  simp
  have e : (-1 + ((l.length : Int) + 1)).toNat = l.length := by omega
  rw [e, List.drop_left]
  simp
theorem cut_nil : DL.cutD ([] : List D) (some (-1)) none = [] := by
  unfold DL.cutD
  simp
theorem cut_filter (p : Ins → Bool) (c : List Ins) : ∀ k, DL.cutD (((List.range k).filter (tst p c)).map fun j : Nat => D.int (j : Int)) (some (-1)) none = lastL p c k
  | 0 => cut_nil
  | k + 1 => by
    rw [List.range_succ, List.filter_append, List.map_append]
    unfold lastL lastP
    by_cases h : tst p c k = true
    · rw [if_pos h, List.filter_cons, if_pos h]
      exact cut_last _ _
    · rw [if_neg h, List.filter_cons, if_neg h]
      simp only [List.filter_nil, List.map_nil, List.append_nil]
      exact cut_filter p c k
theorem ll_comp (p : Ins → Bool) (ks : List Str) (c : List Ins) (n : Int) (kk : Option D) (st : Sto) (hp : ∀ i : Ins, i.ok → okD (.str i.kind) = true ∧ okD (.lst (ks.map D.str)) = true ∧ (p i = (decide (i.kind ∈ ks) && (match mIx i.enc (.int 1) st with | some (.int x) => decide (x = n) | _ => false))) ∧ (decide (i.kind ∈ ks) = true → ∃ x, mIx i.enc (.int 1) st = some (.int x)))
    (hc : ∀ i ∈ c, i.ok) : ∀ (l : List Nat), (∀ j ∈ l, j < c.length) →
    compGo [some (.tup (c.map Ins.enc)), kk, some (.lst (ks.map D.str)), some (.int 1), some (.int n), none] (.nm 5) (gTAnd (gBl (gOp (mIn false) (gOp mIx (gOp mIx (gVar 0) (gVar 5)) (gC (.int 0))) (gVar 2))) (gBl (gOp mEq (gOp mIx (gOp mIx (gVar 0) (gVar 5)) (gVar 3)) (gVar 4)))) (gVar 5) (l.map fun j : Nat => D.int (j : Int)) st
      = .ok ((l.filter (tst p c)).map fun j : Nat => D.int (j : Int)) st
  | [], _ => rfl
  | j :: l, h => by
    have hj := h j List.mem_cons_self
    have ih := ll_comp p ks c n kk st hp hc l fun x hx => h x (List.mem_cons_of_mem _ hx)
    have hx := ix_core hj
    have ht : tst p c j = p c[j] := tst_at hj
    obtain ⟨h1, h2, h3, h4⟩ := hp c[j] (hc _ (List.getElem_mem hj))
    generalize c[j] = i at hx ht h1 h2 h3 h4
    rw [List.map_cons, List.filter_cons, ht, h3]
    by_cases hk : i.kind ∈ ks
    · obtain ⟨x, e⟩ := h4 (decide_eq_true hk)
      by_cases hn : x = n
      · simp [-List.map_map, -ok_lst, k_nm, hx, in_lst, h1, h2, any_strs, hk, e, ih, hn]
      · simp [-List.map_map, -ok_lst, k_nm, hx, in_lst, h1, h2, any_strs, hk, e, ih, hn]
    · simp [-List.map_map, -ok_lst, k_nm, hx, in_lst, h1, h2, any_strs, hk, ih]
end K04

set_option Elab.async false
set_option linter.all false
set_option maxRecDepth 100000
set_option maxHeartbeats 2000000
namespace K04
open PySem PySem.Spec L2 DL
open PyProof.Rows hiding St
@[simp] theorem lit_eq (a b : String) : (Str.ofString a = Str.ofString b) ↔ a = b := ⟨ofString_inj, congrArg _⟩
section
variable {c : List Ins} (hc : ∀ i ∈ c, i.ok) {k : Nat} (hk : k ≤ c.length) (h9 : k ≤ 1000) (n : Int) (st : Sto)
include hc hk h9
theorem law_last_rd : m__law_last [.tup (c.map Ins.enc), .int (k : Int), .lst [.str "read"], .int 1, .int n] st = .ok (.lst (lastL (rdP n) c k)) st := by
  have e := ll_comp (rdP n) ["read"] c n (some (.int (k : Int))) st (fun i hi => by cases i <;> simp [Ins.kind, rdP]) hc (List.range k) (fun j hj => Nat.lt_of_lt_of_le (List.mem_range.mp hj) hk)
  rw [← ints_map] at e
  have h1 : ((k : Nat) : Int) ≤ 1000000 := by omega
  have h2 : (-1000000 : Int) ≤ k := by omega
  have h3 := cut_filter (rdP n) c k
  simp only [List.map_cons, List.map_nil] at e
  simp [m__law_last, g__law_last, h1, h2, e, mSl, h3, -List.map_map]
theorem law_last_wr : m__law_last [.tup (c.map Ins.enc), .int (k : Int), .lst [.str "write", .str "copy"], .int 1, .int n] st = .ok (.lst (lastL (wrP n) c k)) st := by
  have e := ll_comp (wrP n) ["write", "copy"] c n (some (.int (k : Int))) st (fun i hi => by cases i <;> simp [Ins.kind, wrP]) hc (List.range k) (fun j hj => Nat.lt_of_lt_of_le (List.mem_range.mp hj) hk)
  rw [← ints_map] at e
  have h1 : ((k : Nat) : Int) ≤ 1000000 := by omega
  have h2 : (-1000000 : Int) ≤ k := by omega
  have h3 := cut_filter (wrP n) c k
  simp only [List.map_cons, List.map_nil] at e
  simp [m__law_last, g__law_last, h1, h2, e, mSl, h3, -List.map_map]
end
/-! the checks -/
theorem core_comp (ρ : DL.Env) (hl : 1 < ρ.length) (st : Sto) : ∀ c : List Ins, (∀ i ∈ c, i.ok) → compGo ρ (.nm 1) gYes (gCall m_is_instruction (aCons (gVar 1) aNil)) (c.map Ins.enc) st = .ok (c.map fun _ => D.bl true) st
  | [], _ => rfl
  | i :: c, h => by
    have ih := core_comp ρ hl st c fun x hx => h x (List.mem_cons_of_mem _ hx)
    have hv : ∀ st, gVar 1 (ρ.set 1 (some i.enc)) st = .ok i.enc st := fun st => by
      unfold gVar
      rw [List.getElem?_set_self hl]
    simp [k_nm, hv, instr_go i st (h i List.mem_cons_self), ih]
theorem bls_true {α : Type} : ∀ c : List α, bls (c.map fun _ => D.bl true) = some (c.map fun _ => true)
  | [] => rfl
  | _ :: c => by rw [List.map_cons, b_cons, bls_true c]; rfl
theorem is_core_go {c : List Ins} (hc : ∀ i ∈ c, i.ok) (h5 : c.length ≤ 5) (st : Sto) : m_is_core [.tup (c.map Ins.enc)] st = .ok (.bl true) st := by
  have e := core_comp [some (.tup (c.map Ins.enc)), none] (by simp) st c hc
  have h : ¬ (5 : Int) < c.length := by omega
  have hb := bls_true c
  have ha : (List.map (fun _ => true) c).all id = true := by simp
  simp [m_is_core, g_is_core, isiB, h, e, hb, -List.map_const']
theorem check_core_go {c : List Ins} (hc : ∀ i ∈ c, i.ok) (h5 : c.length ≤ 5) (st : Sto) : m_check_core [.tup (c.map Ins.enc)] st = .ok .non st := by
  simp [m_check_core, g_check_core, is_core_go hc h5]
theorem number_go (v g : Int) (st : Sto) : m_is_number [.int v, .int g] st = .ok (.bl (decide (0 ≤ v ∧ v ≤ g))) st := by
  by_cases h : 0 ≤ v
  · simp [m_is_number, g_is_number, isiB, h]
  · simp [m_is_number, g_is_number, isiB, h]
theorem check_places_go {c : List Ins} {i j : Nat} (hij : i < j) (hj : j < c.length) (st : Sto) : m_check_places [.tup (c.map Ins.enc), .int (i : Int), .int (j : Int)] st = .ok .non st := by
  have h1 : (0 : Int) ≤ i ∧ (i : Int) ≤ (c.length : Int) - 1 := by omega
  have h2 : (0 : Int) ≤ j ∧ (j : Int) ≤ (c.length : Int) - 1 := by omega
  have h3 : ¬ (j : Int) ≤ i := by omega
  have h4 : ¬ j ≤ i := by omega
  simp [m_check_places, g_check_places, number_go, h1, h2, h3, h4]
end K04

set_option Elab.async false
set_option linter.all false
set_option maxRecDepth 100000
set_option maxHeartbeats 2000000
namespace K04
open PySem PySem.Spec L2 DL
open PyProof.Rows hiding St
@[simp] theorem cat_rr {st : Sto} : mAdd (.str "r") (.str "r") st = some (.str "rr") := rfl
@[simp] theorem hasf_rr {st : Sto} : mIn false (.str "f") (.str "rr") st = some (.bl false) := by
  show some (D.bl (inStr "f" "rr")) = _
  rw [show inStr "f" "rr" = false by decide +kernel]
@[simp] theorem at0_rr {st : Sto} : mIx (.str "rr") (.int 0) st = some (.str "r") := rfl
@[simp] theorem at1_rr {st : Sto} : mIx (.str "rr") (.int 1) st = some (.str "r") := rfl
@[simp] theorem cat_rw {st : Sto} : mAdd (.str "r") (.str "w") st = some (.str "rw") := rfl
@[simp] theorem hasf_rw {st : Sto} : mIn false (.str "f") (.str "rw") st = some (.bl false) := by
  show some (D.bl (inStr "f" "rw")) = _
  rw [show inStr "f" "rw" = false by decide +kernel]
@[simp] theorem at0_rw {st : Sto} : mIx (.str "rw") (.int 0) st = some (.str "r") := rfl
@[simp] theorem at1_rw {st : Sto} : mIx (.str "rw") (.int 1) st = some (.str "w") := rfl
@[simp] theorem cat_rg {st : Sto} : mAdd (.str "r") (.str "g") st = some (.str "rg") := rfl
@[simp] theorem hasf_rg {st : Sto} : mIn false (.str "f") (.str "rg") st = some (.bl false) := by
  show some (D.bl (inStr "f" "rg")) = _
  rw [show inStr "f" "rg" = false by decide +kernel]
@[simp] theorem at0_rg {st : Sto} : mIx (.str "rg") (.int 0) st = some (.str "r") := rfl
@[simp] theorem at1_rg {st : Sto} : mIx (.str "rg") (.int 1) st = some (.str "g") := rfl
@[simp] theorem cat_rf {st : Sto} : mAdd (.str "r") (.str "f") st = some (.str "rf") := rfl
@[simp] theorem hasf_rf {st : Sto} : mIn false (.str "f") (.str "rf") st = some (.bl true) := by
  show some (D.bl (inStr "f" "rf")) = _
  rw [show inStr "f" "rf" = true by decide +kernel]
@[simp] theorem at0_rf {st : Sto} : mIx (.str "rf") (.int 0) st = some (.str "r") := rfl
@[simp] theorem at1_rf {st : Sto} : mIx (.str "rf") (.int 1) st = some (.str "f") := rfl
@[simp] theorem cat_wr {st : Sto} : mAdd (.str "w") (.str "r") st = some (.str "wr") := rfl
@[simp] theorem hasf_wr {st : Sto} : mIn false (.str "f") (.str "wr") st = some (.bl false) := by
  show some (D.bl (inStr "f" "wr")) = _
  rw [show inStr "f" "wr" = false by decide +kernel]
@[simp] theorem at0_wr {st : Sto} : mIx (.str "wr") (.int 0) st = some (.str "w") := rfl
@[simp] theorem at1_wr {st : Sto} : mIx (.str "wr") (.int 1) st = some (.str "r") := rfl
@[simp] theorem cat_ww {st : Sto} : mAdd (.str "w") (.str "w") st = some (.str "ww") := rfl
@[simp] theorem hasf_ww {st : Sto} : mIn false (.str "f") (.str "ww") st = some (.bl false) := by
  show some (D.bl (inStr "f" "ww")) = _
  rw [show inStr "f" "ww" = false by decide +kernel]
@[simp] theorem at0_ww {st : Sto} : mIx (.str "ww") (.int 0) st = some (.str "w") := rfl
@[simp] theorem at1_ww {st : Sto} : mIx (.str "ww") (.int 1) st = some (.str "w") := rfl
@[simp] theorem cat_wg {st : Sto} : mAdd (.str "w") (.str "g") st = some (.str "wg") := rfl
@[simp] theorem hasf_wg {st : Sto} : mIn false (.str "f") (.str "wg") st = some (.bl false) := by
  show some (D.bl (inStr "f" "wg")) = _
  rw [show inStr "f" "wg" = false by decide +kernel]
@[simp] theorem at0_wg {st : Sto} : mIx (.str "wg") (.int 0) st = some (.str "w") := rfl
@[simp] theorem at1_wg {st : Sto} : mIx (.str "wg") (.int 1) st = some (.str "g") := rfl
@[simp] theorem cat_wf {st : Sto} : mAdd (.str "w") (.str "f") st = some (.str "wf") := rfl
@[simp] theorem hasf_wf {st : Sto} : mIn false (.str "f") (.str "wf") st = some (.bl true) := by
  show some (D.bl (inStr "f" "wf")) = _
  rw [show inStr "f" "wf" = true by decide +kernel]
@[simp] theorem at0_wf {st : Sto} : mIx (.str "wf") (.int 0) st = some (.str "w") := rfl
@[simp] theorem at1_wf {st : Sto} : mIx (.str "wf") (.int 1) st = some (.str "f") := rfl
@[simp] theorem cat_gr {st : Sto} : mAdd (.str "g") (.str "r") st = some (.str "gr") := rfl
@[simp] theorem hasf_gr {st : Sto} : mIn false (.str "f") (.str "gr") st = some (.bl false) := by
  show some (D.bl (inStr "f" "gr")) = _
  rw [show inStr "f" "gr" = false by decide +kernel]
@[simp] theorem at0_gr {st : Sto} : mIx (.str "gr") (.int 0) st = some (.str "g") := rfl
@[simp] theorem at1_gr {st : Sto} : mIx (.str "gr") (.int 1) st = some (.str "r") := rfl
@[simp] theorem cat_gw {st : Sto} : mAdd (.str "g") (.str "w") st = some (.str "gw") := rfl
@[simp] theorem hasf_gw {st : Sto} : mIn false (.str "f") (.str "gw") st = some (.bl false) := by
  show some (D.bl (inStr "f" "gw")) = _
  rw [show inStr "f" "gw" = false by decide +kernel]
@[simp] theorem at0_gw {st : Sto} : mIx (.str "gw") (.int 0) st = some (.str "g") := rfl
@[simp] theorem at1_gw {st : Sto} : mIx (.str "gw") (.int 1) st = some (.str "w") := rfl
@[simp] theorem cat_gg {st : Sto} : mAdd (.str "g") (.str "g") st = some (.str "gg") := rfl
@[simp] theorem hasf_gg {st : Sto} : mIn false (.str "f") (.str "gg") st = some (.bl false) := by
  show some (D.bl (inStr "f" "gg")) = _
  rw [show inStr "f" "gg" = false by decide +kernel]
@[simp] theorem at0_gg {st : Sto} : mIx (.str "gg") (.int 0) st = some (.str "g") := rfl
@[simp] theorem at1_gg {st : Sto} : mIx (.str "gg") (.int 1) st = some (.str "g") := rfl
@[simp] theorem cat_gf {st : Sto} : mAdd (.str "g") (.str "f") st = some (.str "gf") := rfl
@[simp] theorem hasf_gf {st : Sto} : mIn false (.str "f") (.str "gf") st = some (.bl true) := by
  show some (D.bl (inStr "f" "gf")) = _
  rw [show inStr "f" "gf" = true by decide +kernel]
@[simp] theorem at0_gf {st : Sto} : mIx (.str "gf") (.int 0) st = some (.str "g") := rfl
@[simp] theorem at1_gf {st : Sto} : mIx (.str "gf") (.int 1) st = some (.str "f") := rfl
@[simp] theorem cat_fr {st : Sto} : mAdd (.str "f") (.str "r") st = some (.str "fr") := rfl
@[simp] theorem hasf_fr {st : Sto} : mIn false (.str "f") (.str "fr") st = some (.bl true) := by
  show some (D.bl (inStr "f" "fr")) = _
  rw [show inStr "f" "fr" = true by decide +kernel]
@[simp] theorem at0_fr {st : Sto} : mIx (.str "fr") (.int 0) st = some (.str "f") := rfl
@[simp] theorem at1_fr {st : Sto} : mIx (.str "fr") (.int 1) st = some (.str "r") := rfl
@[simp] theorem cat_fw {st : Sto} : mAdd (.str "f") (.str "w") st = some (.str "fw") := rfl
@[simp] theorem hasf_fw {st : Sto} : mIn false (.str "f") (.str "fw") st = some (.bl true) := by
  show some (D.bl (inStr "f" "fw")) = _
  rw [show inStr "f" "fw" = true by decide +kernel]
@[simp] theorem at0_fw {st : Sto} : mIx (.str "fw") (.int 0) st = some (.str "f") := rfl
@[simp] theorem at1_fw {st : Sto} : mIx (.str "fw") (.int 1) st = some (.str "w") := rfl
@[simp] theorem cat_fg {st : Sto} : mAdd (.str "f") (.str "g") st = some (.str "fg") := rfl
@[simp] theorem hasf_fg {st : Sto} : mIn false (.str "f") (.str "fg") st = some (.bl true) := by
  show some (D.bl (inStr "f" "fg")) = _
  rw [show inStr "f" "fg" = true by decide +kernel]
@[simp] theorem at0_fg {st : Sto} : mIx (.str "fg") (.int 0) st = some (.str "f") := rfl
@[simp] theorem at1_fg {st : Sto} : mIx (.str "fg") (.int 1) st = some (.str "g") := rfl
@[simp] theorem cat_ff {st : Sto} : mAdd (.str "f") (.str "f") st = some (.str "ff") := rfl
@[simp] theorem hasf_ff {st : Sto} : mIn false (.str "f") (.str "ff") st = some (.bl true) := by
  show some (D.bl (inStr "f" "ff")) = _
  rw [show inStr "f" "ff" = true by decide +kernel]
@[simp] theorem at0_ff {st : Sto} : mIx (.str "ff") (.int 0) st = some (.str "f") := rfl
@[simp] theorem at1_ff {st : Sto} : mIx (.str "ff") (.int 1) st = some (.str "f") := rfl
theorem filt_go (l : List D) (hl : okD (.tup l) = true) (st : Sto) : ∀ ws : List Str, (∀ w ∈ ws, PyData.strOk w = true) →
    compGo [some (.tup l), none] (.nm 1) (gBl (gOp (mIn false) (gVar 1) (gVar 0))) (gVar 1) (ws.map D.str) st = .ok ((ws.filter fun w => l.any fun z => eqD z (.str w)).map D.str) st
  | [], _ => rfl
  | w :: ws, h => by
    have ih := filt_go l hl st ws fun x hx => h x (List.mem_cons_of_mem _ hx)
    have hw : okD (.str w) = true := okStr (h w List.mem_cons_self)
    cases e : l.any fun z => eqD z (.str w) <;> simp [k_nm, in_tup, hw, ih, e, -ok_tup, hl]
theorem words_ok : ∀ w ∈ words8, PyData.strOk w = true := by
  intro w hw
  simp only [List.mem_cons, List.not_mem_nil, or_false] at hw
  rcases hw with rfl | rfl | rfl | rfl | rfl | rfl | rfl | rfl <;> exact strOk_of _
theorem is_design_tup (l : List D) (hl : okD (.tup l) = true) (st : Sto) : m_is_design [.tup l] st = .ok (.bl (eqD (.tup l) (.tup ((words8.filter fun w => l.any fun z => eqD z (.str w)).map D.str)))) st := by
  have e := filt_go l hl st words8 words_ok
  have ho : okD (.tup ((words8.filter fun w => l.any fun z => eqD z (.str w)).map D.str)) = true := by
    rw [ok_tup]
    exact okB_strs fun s hs => words_ok s ((List.mem_filter.mp hs).1)
  simp only [List.map_cons, List.map_nil] at e
  simp [m_is_design, g_is_design, isiB, c_WORDS, e, -ok_tup, hl, ho, -q_tup]
theorem is_design_strs (ss : List Str) (hs : ∀ s ∈ ss, PyData.strOk s = true) (st : Sto) : m_is_design [.tup (ss.map D.str)] st = .ok (.bl (decide (ss = words8.filter fun w => decide (w ∈ ss)))) st := by
  rw [is_design_tup _ (by rw [ok_tup]; exact okB_strs hs)]
  simp only [any_strs, q_tup, qs_strs]
theorem words_asc : Asc words8 := by
  decide +kernel
/-- a part of the words in their order is a design, and nothing else -/
theorem design_iff (ss : List Str) : ss = (words8.filter fun w => decide (w ∈ ss)) ↔ (∀ s ∈ ss, s ∈ words8) ∧ ss = sortS ss := by
  constructor
  · intro h
    have hm : ∀ s ∈ ss, s ∈ words8 := fun s hs => by
      rw [h] at hs
      exact (List.mem_filter.mp hs).1
    refine ⟨hm, ?_⟩
    have ha : Asc ss := by
      rw [h]
      exact words_asc.filter _
    exact asc_one ha (asc_sortS ss) fun z => mem_sortS.symm
  · rintro ⟨hm, h⟩
    have ha : Asc ss := by
      rw [h]
      exact asc_sortS ss
    refine asc_one ha (words_asc.filter _) fun z => ?_
    simp only [List.mem_filter, decide_eq_true_eq]
    exact ⟨fun hz => ⟨hm z hz, hz⟩, fun hz => hz.2⟩
theorem sub_design (ss : List Str) (h : ss.Sublist words8) : ss = (words8.filter fun w => decide (w ∈ ss)) := by
  have ha : Asc ss := words_asc.sublist h
  exact (design_iff ss).mpr ⟨fun s hs => h.subset hs, asc_one ha (asc_sortS ss) fun z => mem_sortS.symm⟩

theorem des_ok {sub : List Str} (h : sub.Sublist words8) : (sub.map D.str).all (okB 63) = true := okB_strs fun s hs => words_ok s (h.subset hs)
theorem in_des {sub : List Str} (h : sub.Sublist words8) (w : String) (st : Sto) : mIn false (.str (Str.ofString w)) (.tup (sub.map D.str)) st = some (.bl (decide (Str.ofString w ∈ sub))) := by
  rw [in_tup, ok_lit, ok_tup, des_ok h, any_strs]
  rfl
theorem nin_des {sub : List Str} (h : sub.Sublist words8) (w : String) (st : Sto) : mIn true (.str (Str.ofString w)) (.tup (sub.map D.str)) st = some (.bl (!decide (Str.ofString w ∈ sub))) := by
  rw [in_tup, ok_lit, ok_tup, des_ok h, any_strs]
  rfl
theorem check_design_go {sub : List Str} (h : sub.Sublist words8) (st : Sto) : m_check_design [.tup (sub.map D.str)] st = .ok .non st := by
  have e := is_design_strs sub (fun s hs => words_ok s (h.subset hs)) st
  rw [decide_eq_true (sub_design sub h)] at e
  simp [m_check_design, g_check_design, e]
end K04

set_option Elab.async false
set_option linter.all false
set_option maxRecDepth 100000
set_option maxHeartbeats 4000000
namespace K04
open PySem PySem.Spec L2 DL
open PyProof.Rows hiding St
@[simp] theorem isn_nn {st : Sto} : mIsNot .non .non st = some (.bl false) := rfl
@[simp] theorem isn_in {k : Int} {st : Sto} : mIsNot (.int k) .non st = some (.bl true) := rfl
def usedB (c : List Ins) (i j : Nat) : Ins → Bool
  | .cp _ r => decide (lastP (rdP r) c j = some i)
  | .gd r _ => decide (lastP (rdP r) c j = some i)
  | _ => false
def behB (sub : List Str) : Ins → Bool
  | .rd _ _ => decide (("gr" : Str) ∈ sub)
  | .wr _ _ => decide (("gw" : Str) ∈ sub)
  | .cp _ _ => decide (("gw" : Str) ∈ sub)
  | .gd _ _ => true
  | .fn => true
def rdB (sub : List Str) (x : Int) : Ins → Bool
  | .rd _ y => if x = y then decide (("ss" : Str) ∈ sub) else decide (("rr" : Str) ∈ sub)
  | .wr y _ => if x = y then true else decide (("rw" : Str) ∈ sub)
  | .cp y _ => if x = y then true else decide (("rw" : Str) ∈ sub)
  | .gd _ _ => false
  | .fn => true
def wrB (sub : List Str) (x : Int) : Ins → Bool
  | .rd _ y => if x = y then !decide (("own" : Str) ∈ sub) else decide (("wr" : Str) ∈ sub)
  | .wr y _ => if x = y then true else decide (("ww" : Str) ∈ sub)
  | .cp y _ => if x = y then true else decide (("ww" : Str) ∈ sub)
  | .gd _ _ => false
  | .fn => true
def pairB (sub : List Str) : Ins → Ins → Bool
  | .fn, _ => true
  | .gd _ _, b => behB sub b
  | .rd _ x, b => rdB sub x b
  | .wr x _, b => wrB sub x b
  | .cp x _, b => wrB sub x b
/-- kept by the two alone, or by what was read last -/
def kB (sub : List Str) (c : List Ins) (i j : Nat) (a b : Ins) : Bool := usedB c i j b || pairB sub a b
/-- a read that waits for what was copied -/
def wB (sub : List Str) (c : List Ins) (i j : Nat) : Ins → Bool
  | .rd _ y => decide (("own" : Str) ∈ sub) && (match lastP (wrP y) c j with
    | some m => (match c[m]? with
      | some (.cp _ r) => decide (lastP (rdP r) c m = some i)
      | _ => false)
    | none => false)
  | _ => false
theorem optN_ok (o : Option Nat) : okD (optN o) = true := by cases o <;> simp
theorem optN_eq (o : Option Nat) (i : Nat) : eqD (optN o) (.int (i : Int)) = decide (o = some i) := by
  cases o with
  | none => simp
  | some k =>
    simp only [optN_some, q_int, Option.some.injEq]
    by_cases h : k = i
    · simp [h]
    · have : ¬ (k : Int) = i := by omega
      simp [h, this]
theorem lastL_ok (p : Ins → Bool) (c : List Ins) (k : Nat) : (lastL p c k).all (okB 63) = true := by
  unfold lastL
  split <;> simp
theorem lastL_eq (p : Ins → Bool) (c : List Ins) (k i : Nat) : eqDs [.int (i : Int)] (lastL p c k) = decide (lastP p c k = some i) := by
  unfold lastL
  cases lastP p c k with
  | none => simp
  | some m =>
    simp only [qs_cons, q_int, qs_nil, Bool.and_true, Option.some.injEq]
    by_cases h : m = i
    · simp [h]
    · have : ¬ (i : Int) = m := by omega
      simp [h, this]
section
variable {sub : List Str} (hs : sub.Sublist words8) {c : List Ins} (hc : ∀ i ∈ c, i.ok) (h5 : c.length ≤ 5) {i j : Nat} (hij : i < j) (hj : j < c.length) (st : Sto) {a b : Ins} (ha : c[i]? = some a) (hb : c[j]? = some b)
include hs hc h5 hij hj ha hb
theorem kept_go : m_is_kept [.tup (sub.map D.str), .tup (c.map Ins.enc), .int (i : Int), .int (j : Int)] st = .ok (.bl (kB sub c i j a b)) st := by
  have xi : atI (c.map Ins.enc) ((i : Nat) : Int) = some a.enc := atI_nat (by simp [ha])
  have xj : atI (c.map Ins.enc) ((j : Nat) : Int) = some b.enc := atI_nat (by simp [hb])
  have lr := fun n st => last_read_go c n j (by omega) (by omega) st
  cases a <;> cases b <;> simp [-o_adds, m_is_kept, g_is_kept, m_is_kept_behind_guard, g_is_kept_behind_guard, m_is_kept_on_cell, g_is_kept_on_cell, m_kind_of, g_kind_of, xi, xj, lr, used_go, cell_go, reading_go, writing_go, Ins.kind, Ins.used, Ins.cell, Ins.isRd, Ins.isWr, optN_ok, optN_eq, in_des hs, nin_des hs, kB, usedB, pairB, behB, rdB, wrB]
  all_goals (repeat' (split <;> rename_i h <;> (try simp [-o_adds, m_is_kept, g_is_kept, m_is_kept_behind_guard, g_is_kept_behind_guard, m_is_kept_on_cell, g_is_kept_on_cell, m_kind_of, g_kind_of, xi, xj, lr, used_go, cell_go, reading_go, writing_go, Ins.kind, Ins.used, Ins.cell, Ins.isRd, Ins.isWr, optN_ok, optN_eq, in_des hs, nin_des hs, kB, usedB, pairB, behB, rdB, wrB, h])))
theorem src_of {y : Int} {m : Nat} (h : lastP (wrP y) c j = some m) : m < j ∧ ((∃ n, c[m]? = some (.wr y n)) ∨ ∃ r, c[m]? = some (.cp y r)) := by
  obtain ⟨h1, h2⟩ := lastP_lt h
  refine ⟨h1, ?_⟩
  unfold tst at h2
  have hm : m < c.length := by omega
  rw [List.getElem?_eq_getElem hm] at h2 ⊢
  generalize c[m] = s at h2
  cases s <;> simp [wrP] at h2
  · subst h2; exact .inl ⟨_, rfl⟩
  · subst h2; exact .inr ⟨_, rfl⟩
theorem waits_go : m_waits_for_copied [.tup (sub.map D.str), .tup (c.map Ins.enc), .int (i : Int), .int (j : Int)] st = .ok (.bl (wB sub c i j b)) st := by
  have xj : atI (c.map Ins.enc) ((j : Nat) : Int) = some b.enc := atI_nat (by simp [hb])
  by_cases ho : Str.ofString "own" ∈ sub
  · cases b with
    | rd r y =>
      have lw := last_writing_go c y j (by omega) (by omega)
      cases e : lastP (wrP y) c j with
      | none => simp [m_waits_for_copied, g_waits_for_copied, nin_des hs, ho, xj, reading_go, Ins.isRd, cell_go, Ins.cell, lw, e, wB]
      | some m =>
        obtain ⟨hm, h⟩ := src_of hs hc h5 hij hj ha hb e
        have lr := fun n st => last_read_go c n m (by omega) (by omega) st
        rcases h with ⟨n, h⟩ | ⟨n, h⟩
        · have xm : atI (c.map Ins.enc) ((m : Nat) : Int) = some (Ins.wr y n).enc := atI_nat (by simp [h])
          simp [m_waits_for_copied, g_waits_for_copied, nin_des hs, ho, xj, xm, reading_go, Ins.isRd, Ins.kind, cell_go, Ins.cell, lw, e, wB, h]
        · have xm : atI (c.map Ins.enc) ((m : Nat) : Int) = some (Ins.cp y n).enc := atI_nat (by simp [h])
          simp [m_waits_for_copied, g_waits_for_copied, nin_des hs, ho, xj, xm, reading_go, Ins.isRd, Ins.kind, cell_go, Ins.cell, used_go, Ins.used, lw, lr, e, wB, h, optN_ok, optN_eq]
    | wr x n => simp [m_waits_for_copied, g_waits_for_copied, nin_des hs, ho, xj, reading_go, Ins.isRd, wB]
    | cp x n => simp [m_waits_for_copied, g_waits_for_copied, nin_des hs, ho, xj, reading_go, Ins.isRd, wB]
    | fn => simp [m_waits_for_copied, g_waits_for_copied, nin_des hs, ho, xj, reading_go, Ins.isRd, wB]
    | gd x n => simp [m_waits_for_copied, g_waits_for_copied, nin_des hs, ho, xj, reading_go, Ins.isRd, wB]
  · cases b <;> simp [m_waits_for_copied, g_waits_for_copied, nin_des hs, ho, wB]
theorem must_go : m_must_be_done [.tup (sub.map D.str), .tup (c.map Ins.enc), .int (i : Int), .int (j : Int)] st = .ok (.bl (kB sub c i j a b || wB sub c i j b)) st := by
  have e1 := kept_go hs hc h5 hij hj st ha hb
  have e2 := waits_go hs hc h5 hij hj st ha hb
  cases h : kB sub c i j a b <;> rw [h] at e1 <;> simp [m_must_be_done, g_must_be_done, m_must_wait, g_must_wait, check_design_go hs, check_core_go hc h5, check_places_go hij hj, e1, e2]
end
end K04

set_option Elab.async false
set_option linter.all false
set_option maxRecDepth 100000
set_option maxHeartbeats 8000000
namespace K04
open PySem PySem.Spec L2 DL
open PyProof.Rows hiding St
def Ins.letter : Ins → Str | .rd _ _ => "r" | .wr _ _ => "w" | .cp _ _ => "w" | .fn => "f" | .gd _ _ => "g"
theorem letter_go (i : Ins) (st : Sto) : m__law_letter [i.enc] st = .ok (.str i.letter) st := by
  cases i <;> simp [m__law_letter, g__law_letter, gTabIx, Ins.kind, Ins.letter, List.lookup]
theorem lcell_go (i : Ins) (st : Sto) : m__law_cell [i.enc] st = .ok i.cell st := by
  cases i <;> simp [m__law_cell, g__law_cell, Ins.kind, Ins.cell, in_lst]
section
variable {sub : List Str} (hs : sub.Sublist words8) {c : List Ins} (hc : ∀ i ∈ c, i.ok) (h5 : c.length ≤ 5) {i j : Nat} (hij : i < j) (hj : j < c.length) (st : Sto) {a b : Ins} (ha : c[i]? = some a) (hb : c[j]? = some b)
include hs hc h5 hij hj ha hb
theorem law_must_go : m__law_must [.tup (sub.map D.str), .tup (c.map Ins.enc), .int (i : Int), .int (j : Int)] st = .ok (.bl (kB sub c i j a b || wB sub c i j b)) st := by
  have xi : atI (c.map Ins.enc) ((i : Nat) : Int) = some a.enc := atI_nat (by simp [ha])
  have xj : atI (c.map Ins.enc) ((j : Nat) : Int) = some b.enc := atI_nat (by simp [hb])
  have lrd := fun n st => law_last_rd hc (k := j) (by omega) (by omega) n st
  by_cases ho : Str.ofString "own" ∈ sub
  · cases b with
    | rd r y =>
      have lwr := law_last_wr hc (k := j) (by omega) (by omega) y
      cases e : lastP (wrP y) c j with
      | none =>
        have hl : lastL (wrP y) c j = [] := by unfold lastL; rw [e]
        rw [hl] at lwr
        cases a <;> simp [-o_adds, m__law_must, g__law_must, letter_go, lcell_go, xi, xj, Ins.kind, Ins.letter, Ins.cell, in_des hs, nin_des hs, in_lst, kB, wB, usedB, pairB, behB, rdB, wrB, lrd, lastL_ok, lastL_eq, ho, lwr, e, forGo]
        all_goals (repeat' (split <;> rename_i h0 <;> (try simp [-o_adds, m__law_must, g__law_must, letter_go, lcell_go, xi, xj, Ins.kind, Ins.letter, Ins.cell, in_des hs, nin_des hs, in_lst, kB, wB, usedB, pairB, behB, rdB, wrB, lrd, lastL_ok, lastL_eq, ho, h0])))
      | some m =>
        have hl : lastL (wrP y) c j = [.int (m : Int)] := by unfold lastL; rw [e]
        rw [hl] at lwr
        obtain ⟨hm, h⟩ := src_of hs hc h5 hij hj ha hb e
        have lrm := fun n st => law_last_rd hc (k := m) (by omega) (by omega) n st
        rcases h with ⟨n, h⟩ | ⟨n, h⟩
        · have xm : atI (c.map Ins.enc) ((m : Nat) : Int) = some (Ins.wr y n).enc := atI_nat (by simp [h])
          cases a <;> simp [-o_adds, m__law_must, g__law_must, letter_go, lcell_go, xi, xj, Ins.kind, Ins.letter, Ins.cell, in_des hs, nin_des hs, in_lst, kB, wB, usedB, pairB, behB, rdB, wrB, lrd, lastL_ok, lastL_eq, ho, lwr, e, forGo, Pat.set, xm, h]
          all_goals (repeat' (split <;> rename_i h0 <;> (try simp [-o_adds, m__law_must, g__law_must, letter_go, lcell_go, xi, xj, Ins.kind, Ins.letter, Ins.cell, in_des hs, nin_des hs, in_lst, kB, wB, usedB, pairB, behB, rdB, wrB, lrd, lastL_ok, lastL_eq, ho, h0])))
        · have xm : atI (c.map Ins.enc) ((m : Nat) : Int) = some (Ins.cp y n).enc := atI_nat (by simp [h])
          by_cases hq : lastP (rdP n) c m = some i
          · cases a <;> simp [-o_adds, m__law_must, g__law_must, letter_go, lcell_go, xi, xj, Ins.kind, Ins.letter, Ins.cell, in_des hs, nin_des hs, in_lst, kB, wB, usedB, pairB, behB, rdB, wrB, lrd, lastL_ok, lastL_eq, ho, lwr, e, forGo, Pat.set, xm, h, lrm, hq]
          · cases a <;> simp [-o_adds, m__law_must, g__law_must, letter_go, lcell_go, xi, xj, Ins.kind, Ins.letter, Ins.cell, in_des hs, nin_des hs, in_lst, kB, wB, usedB, pairB, behB, rdB, wrB, lrd, lastL_ok, lastL_eq, ho, lwr, e, forGo, Pat.set, xm, h, lrm, hq]
            all_goals (repeat' (split <;> rename_i h0 <;> (try simp [-o_adds, m__law_must, g__law_must, letter_go, lcell_go, xi, xj, Ins.kind, Ins.letter, Ins.cell, in_des hs, nin_des hs, in_lst, kB, wB, usedB, pairB, behB, rdB, wrB, lrd, lastL_ok, lastL_eq, ho, h0])))
    | wr x n =>
      cases a <;> simp [-o_adds, m__law_must, g__law_must, letter_go, lcell_go, xi, xj, Ins.kind, Ins.letter, Ins.cell, in_des hs, nin_des hs, in_lst, kB, wB, usedB, pairB, behB, rdB, wrB, lrd, lastL_ok, lastL_eq, ho]
      all_goals (repeat' (split <;> rename_i h0 <;> (try simp [-o_adds, m__law_must, g__law_must, letter_go, lcell_go, xi, xj, Ins.kind, Ins.letter, Ins.cell, in_des hs, nin_des hs, in_lst, kB, wB, usedB, pairB, behB, rdB, wrB, lrd, lastL_ok, lastL_eq, ho, h0])))
    | cp x n =>
      cases a <;> simp [-o_adds, m__law_must, g__law_must, letter_go, lcell_go, xi, xj, Ins.kind, Ins.letter, Ins.cell, in_des hs, nin_des hs, in_lst, kB, wB, usedB, pairB, behB, rdB, wrB, lrd, lastL_ok, lastL_eq, ho]
      all_goals (repeat' (split <;> rename_i h0 <;> (try simp [-o_adds, m__law_must, g__law_must, letter_go, lcell_go, xi, xj, Ins.kind, Ins.letter, Ins.cell, in_des hs, nin_des hs, in_lst, kB, wB, usedB, pairB, behB, rdB, wrB, lrd, lastL_ok, lastL_eq, ho, h0])))
    | fn => cases a <;> simp [-o_adds, m__law_must, g__law_must, letter_go, lcell_go, xi, xj, Ins.kind, Ins.letter, Ins.cell, in_des hs, nin_des hs, in_lst, kB, wB, usedB, pairB, behB, rdB, wrB, lrd, lastL_ok, lastL_eq, ho]
    | gd x n =>
      cases a <;> simp [-o_adds, m__law_must, g__law_must, letter_go, lcell_go, xi, xj, Ins.kind, Ins.letter, Ins.cell, in_des hs, nin_des hs, in_lst, kB, wB, usedB, pairB, behB, rdB, wrB, lrd, lastL_ok, lastL_eq, ho]
      all_goals (repeat' (split <;> rename_i h0 <;> (try simp [-o_adds, m__law_must, g__law_must, letter_go, lcell_go, xi, xj, Ins.kind, Ins.letter, Ins.cell, in_des hs, nin_des hs, in_lst, kB, wB, usedB, pairB, behB, rdB, wrB, lrd, lastL_ok, lastL_eq, ho, h0])))
  · cases b with
    | rd r y =>
      cases a <;> simp [-o_adds, m__law_must, g__law_must, letter_go, lcell_go, xi, xj, Ins.kind, Ins.letter, Ins.cell, in_des hs, nin_des hs, in_lst, kB, wB, usedB, pairB, behB, rdB, wrB, lrd, lastL_ok, lastL_eq, ho]
      all_goals (repeat' (split <;> rename_i h0 <;> (try simp [-o_adds, m__law_must, g__law_must, letter_go, lcell_go, xi, xj, Ins.kind, Ins.letter, Ins.cell, in_des hs, nin_des hs, in_lst, kB, wB, usedB, pairB, behB, rdB, wrB, lrd, lastL_ok, lastL_eq, ho, h0])))
    | wr x n =>
      cases a <;> simp [-o_adds, m__law_must, g__law_must, letter_go, lcell_go, xi, xj, Ins.kind, Ins.letter, Ins.cell, in_des hs, nin_des hs, in_lst, kB, wB, usedB, pairB, behB, rdB, wrB, lrd, lastL_ok, lastL_eq, ho]
      all_goals (repeat' (split <;> rename_i h0 <;> (try simp [-o_adds, m__law_must, g__law_must, letter_go, lcell_go, xi, xj, Ins.kind, Ins.letter, Ins.cell, in_des hs, nin_des hs, in_lst, kB, wB, usedB, pairB, behB, rdB, wrB, lrd, lastL_ok, lastL_eq, ho, h0])))
    | cp x n =>
      cases a <;> simp [-o_adds, m__law_must, g__law_must, letter_go, lcell_go, xi, xj, Ins.kind, Ins.letter, Ins.cell, in_des hs, nin_des hs, in_lst, kB, wB, usedB, pairB, behB, rdB, wrB, lrd, lastL_ok, lastL_eq, ho]
      all_goals (repeat' (split <;> rename_i h0 <;> (try simp [-o_adds, m__law_must, g__law_must, letter_go, lcell_go, xi, xj, Ins.kind, Ins.letter, Ins.cell, in_des hs, nin_des hs, in_lst, kB, wB, usedB, pairB, behB, rdB, wrB, lrd, lastL_ok, lastL_eq, ho, h0])))
    | fn => cases a <;> simp [-o_adds, m__law_must, g__law_must, letter_go, lcell_go, xi, xj, Ins.kind, Ins.letter, Ins.cell, in_des hs, nin_des hs, in_lst, kB, wB, usedB, pairB, behB, rdB, wrB, lrd, lastL_ok, lastL_eq, ho]
    | gd x n =>
      cases a <;> simp [-o_adds, m__law_must, g__law_must, letter_go, lcell_go, xi, xj, Ins.kind, Ins.letter, Ins.cell, in_des hs, nin_des hs, in_lst, kB, wB, usedB, pairB, behB, rdB, wrB, lrd, lastL_ok, lastL_eq, ho]
      all_goals (repeat' (split <;> rename_i h0 <;> (try simp [-o_adds, m__law_must, g__law_must, letter_go, lcell_go, xi, xj, Ins.kind, Ins.letter, Ins.cell, in_des hs, nin_des hs, in_lst, kB, wB, usedB, pairB, behB, rdB, wrB, lrd, lastL_ok, lastL_eq, ho, h0])))
end
end K04

set_option Elab.async false
set_option linter.all false
set_option maxRecDepth 100000
set_option maxHeartbeats 4000000
namespace K04
open PySem PySem.Spec L2 DL
open PyProof.Rows hiding St
theorem gv {ρ : DL.Env} {n : Nat} {d : D} {st : Sto} (h : ρ[n]? = some (some d)) : gVar n ρ st = .ok d st := by
  unfold gVar
  rw [h]
theorem alike_b (a b : Bool) (st : Sto) : m__law_alike [.bl a, .bl b] st = .ok (.bl (decide (a = b))) st := by
  cases a <;> cases b <;> simp [m__law_alike, g__law_alike, isiB, isiAny]
/-- the core's draws -/
theorem ins_comp (ns : List Int) (sc : D) (hS : Scr ns sc) (t : SO) (ρ : DL.Env) (h1 : ρ[1]? = some (some (.ref 1))) (r : Sto) : ∀ (ds : List D) (p q c : Int), 0 ≤ p →
    ∃ (is : List Ins) (p' q' c' : Int), compGo ρ (.nm 10) gYes (gCall m__law_instruction (aCons (gVar 1) aNil)) ds (t :: rowS sc p q c :: r) = .ok (is.map Ins.enc) (t :: rowS sc p' q' c' :: r) ∧ (∀ i ∈ is, i.ok) ∧ is.length = ds.length ∧ 0 ≤ p'
  | [], p, q, c, hp => ⟨[], p, q, c, rfl, by simp, rfl, hp⟩
  | d :: ds, p, q, c, hp => by
    obtain ⟨i, p1, q1, c1, e, hi, hp1⟩ := ins_go ns sc hS t p q c r hp
    obtain ⟨is, p2, q2, c2, e2, his, hl, hp2⟩ := ins_comp ns sc hS t ρ h1 r ds p1 q1 c1 hp1
    have a1 : ∀ st, gVar 1 (ρ.set 10 (some d)) st = .ok (.ref 1) st := fun st => gv (by rw [List.getElem?_set_ne (by decide)]; exact h1)
    refine ⟨i :: is, p2, q2, c2, ?_, ?_, by simp [hl], hp2⟩
    · simp only [k_nm, e_Yes, x_ok, Out.bind_ok, kCo, kCo2, kCo3, kCons, kCons2, if_true, e_Call, e_Cons, e_Nil, a1, e, e2, List.map_cons]
    · intro z hz
      rcases List.mem_cons.mp hz with rfl | hz
      · exact hi
      · exact his z hz
section
variable {sub : List Str} (hs : sub.Sublist words8) {c : List Ins} (hc : ∀ i ∈ c, i.ok) (h5 : c.length ≤ 5) (st : Sto)
include hs hc h5
abbrev bodyI : G Fl := (sIf (gTNot (gTr (gCall m__law_alike (aCons (gCall m_must_be_done (aCons (gVar 2) (aCons (gVar 3) (aCons (gVar 5) (aCons (gVar 4) aNil))))) (aCons (gCall m__law_must (aCons (gVar 2) (aCons (gVar 3) (aCons (gVar 5) (aCons (gVar 4) aNil))))) aNil))))) (sRet (gC (.bl false))) sNext)
theorem inner_go {j : Nat} (hj : j < c.length) (x y a6 a7 a8 a9 a10 : Option D) : ∀ (l : List Nat), (∀ i ∈ l, i < j) → ∀ z : Option D, ∃ z',
    forGo (.nm 5) bodyI (l.map fun i : Nat => D.int (i : Int)) [x, y, some (.tup (sub.map D.str)), some (.tup (c.map Ins.enc)), some (.int (j : Int)), z, a6, a7, a8, a9, a10] st
      = .ok (.nx [x, y, some (.tup (sub.map D.str)), some (.tup (c.map Ins.enc)), some (.int (j : Int)), z', a6, a7, a8, a9, a10]) st
  | [], _, z => ⟨z, rfl⟩
  | i :: l, h, z => by
    have hi := h i List.mem_cons_self
    obtain ⟨z', e⟩ := inner_go hj x y a6 a7 a8 a9 a10 l (fun x hx => h x (List.mem_cons_of_mem _ hx)) (some (.int (i : Int)))
    refine ⟨z', ?_⟩
    have ha : c[i]? = some (c[i]'(by omega)) := List.getElem?_eq_getElem _
    have hb : c[j]? = some c[j] := List.getElem?_eq_getElem _
    have e1 := must_go hs hc h5 hi hj st ha hb
    have e2 := law_must_go hs hc h5 hi hj st ha hb
    simp [forGo, Pat.set, e1, e2, alike_b, e]
theorem outer_go (x y a6 a7 a8 a9 a10 : Option D) : ∀ (l : List Nat), (∀ j ∈ l, j < c.length) → ∀ z z2 : Option D, ∃ z' z2',
    forGo (.nm 4) (sFor (gRange1 (aCons (gVar 4) aNil)) (.nm 5) bodyI) (l.map fun i : Nat => D.int (i : Int)) [x, y, some (.tup (sub.map D.str)), some (.tup (c.map Ins.enc)), z, z2, a6, a7, a8, a9, a10] st
      = .ok (.nx [x, y, some (.tup (sub.map D.str)), some (.tup (c.map Ins.enc)), z', z2', a6, a7, a8, a9, a10]) st
  | [], _, z, z2 => ⟨z, z2, rfl⟩
  | j :: l, h, z, z2 => by
    have hj := h j List.mem_cons_self
    obtain ⟨w, e1⟩ := inner_go hs hc h5 st hj x y a6 a7 a8 a9 a10 (List.range j) (fun i hi => List.mem_range.mp hi) z2
    obtain ⟨z', z2', e⟩ := outer_go x y a6 a7 a8 a9 a10 l (fun x hx => h x (List.mem_cons_of_mem _ hx)) (some (.int (j : Int))) w
    refine ⟨z', z2', ?_⟩
    have h1 : ((j : Nat) : Int) ≤ 1000000 := by omega
    have h2 : (-1000000 : Int) ≤ j := by omega
    rw [← ints_map] at e1
    simp [forGo, Pat.set, h1, h2, e1, e, -List.map_map]
end
end K04

set_option Elab.async false
set_option linter.all false
set_option maxRecDepth 100000
set_option maxHeartbeats 4000000
namespace K04
open PySem PySem.Spec L2 DL
open PyProof.Rows hiding St
/-! cores that are none -/
def NoCore (d : D) : Prop := ∀ st, m_is_core [d] st = .ok (.bl false) st
theorem nc_non : NoCore .non := fun st => by simp [m_is_core, g_is_core, isiB]
theorem nc_lst (l : List D) : NoCore (.lst l) := fun st => by simp [m_is_core, g_is_core, isiB]
theorem nc_str (x : Str) : NoCore (.str x) := fun st => by simp [m_is_core, g_is_core, isiB]
theorem nc_long (l : List D) (h : 5 < l.length) : NoCore (.tup l) := fun st => by
  have h : (5 : Int) < l.length := by omega
  simp [m_is_core, g_is_core, isiB, h]
theorem none_no (st : Sto) : m_is_instruction [.non] st = .ok (.bl false) st := by simp [m_is_instruction, g_is_instruction, isiB]
theorem core_comp2 (ρ : DL.Env) (hl : 1 < ρ.length) (st : Sto) : ∀ c : List Ins, (∀ i ∈ c, i.ok) → compGo ρ (.nm 1) gYes (gCall m_is_instruction (aCons (gVar 1) aNil)) (c.map Ins.enc ++ [.non]) st = .ok ((c.map fun _ => D.bl true) ++ [.bl false]) st
  | [], h => by
    have hv : ∀ st, gVar 1 (ρ.set 1 (some .non)) st = .ok .non st := fun st => by
      unfold gVar
      rw [List.getElem?_set_self hl]
    simp [k_nm, hv, none_no]
  | i :: c, h => by
    have ih := core_comp2 ρ hl st c fun x hx => h x (List.mem_cons_of_mem _ hx)
    have hv : ∀ st, gVar 1 (ρ.set 1 (some i.enc)) st = .ok i.enc st := fun st => by
      unfold gVar
      rw [List.getElem?_set_self hl]
    simp [k_nm, hv, instr_go i st (h i List.mem_cons_self), ih]
theorem bls_tf {α : Type} : ∀ c : List α, bls ((c.map fun _ => D.bl true) ++ [.bl false]) = some ((c.map fun _ => true) ++ [false])
  | [] => rfl
  | _ :: c => by rw [List.map_cons, List.cons_append, b_cons, bls_tf c]; rfl
theorem nc_snoc {c : List Ins} (hc : ∀ i ∈ c, i.ok) : NoCore (.tup (c.map Ins.enc ++ [.non])) := fun st => by
  by_cases h5 : c.length + 1 ≤ 5
  · have e := core_comp2 [some (.tup (c.map Ins.enc ++ [.non])), none] (by simp) st c hc
    have h : ¬ (5 : Int) < c.length + 1 := by omega
    have hb := bls_tf c
    simp [m_is_core, g_is_core, isiB, h, e, hb, -List.map_const']
  · exact nc_long _ (by simp; omega) st
theorem nc_one (d : D) (h : ∀ st, m_is_instruction [d] st = .ok (.bl false) st) : NoCore (.tup [d]) := fun st => by
  simp [m_is_core, g_is_core, isiB, k_nm, h]
theorem core_bad {sub : List Str} (h : sub.Sublist words8) {d : D} (hd : NoCore d) (a b : D) (st : Sto) : m_must_be_done [.tup (sub.map D.str), d, a, b] st = .exn ⟨"BadCore", none⟩ st := by
  simp [m_must_be_done, g_must_be_done, check_design_go h, m_check_core, g_check_core, hd st, sRaise]
theorem bad_pick (c : List Ins) (hc : ∀ i ∈ c, i.ok) (h2 : 2 ≤ c.length) (l : List D) (hl : l = [.non, .lst (c.map Ins.enc), .tup (List.replicate 3 (c.map Ins.enc)).flatten, .tup (c.map Ins.enc ++ [.non]), .tup [.tup [.str "read", .int 2, .int 0]], .tup [.tup [.str "read", .int 0, .int 3]], .tup [.tup [.str "write", .int 0, .int 10]], .tup [.tup [.str "fence", .int 0]], .str "core"]) (d : D) (hd : d ∈ l) : NoCore d := by
  subst hl
  have number_go : ∀ (v g : Int) (st : Sto), m_is_number [.int v, .int g] st = .ok (.bl (decide (0 ≤ v ∧ v ≤ g))) st := number_go
  simp only [List.mem_cons, List.not_mem_nil, or_false] at hd
  rcases hd with rfl | rfl | rfl | rfl | rfl | rfl | rfl | rfl | rfl
  · exact nc_non
  · exact nc_lst _
  · exact nc_long _ (by simp [List.replicate_succ]; omega)
  · exact nc_snoc hc
  · exact nc_one _ fun st => by simp [m_is_instruction, g_is_instruction, isiB, t_GREATEST, List.lookup, k_t2, number_go]
  · exact nc_one _ fun st => by simp [m_is_instruction, g_is_instruction, isiB, t_GREATEST, List.lookup, k_t2, number_go]
  · exact nc_one _ fun st => by simp [m_is_instruction, g_is_instruction, isiB, t_GREATEST, List.lookup, k_t2, number_go]
  · exact nc_one _ fun st => by simp [m_is_instruction, g_is_instruction, isiB, t_GREATEST, List.lookup]
  · exact nc_str _
/-! places that are none -/
def NoPlace (c : List Ins) (a b : D) : Prop := ∀ st, m_check_places [.tup (c.map Ins.enc), a, b] st = .exn ⟨"BadPlace", none⟩ st
theorem place_bad {sub : List Str} (h : sub.Sublist words8) {c : List Ins} (hc : ∀ i ∈ c, i.ok) (h5 : c.length ≤ 5) {a b : D} (hd : NoPlace c a b) (st : Sto) : m_must_be_done [.tup (sub.map D.str), .tup (c.map Ins.enc), a, b] st = .exn ⟨"BadPlace", none⟩ st := by
  simp [m_must_be_done, g_must_be_done, check_design_go h, check_core_go hc h5, hd st]
theorem nn_go (g : Int) (st : Sto) : m_is_number [.non, .int g] st = .ok (.bl false) st := by simp [m_is_number, g_is_number, isiB]
theorem ns_go (x : Str) (g : Int) (st : Sto) : m_is_number [.str x, .int g] st = .ok (.bl false) st := by simp [m_is_number, g_is_number, isiB]
theorem nb_go (x : Bool) (g : Int) (st : Sto) : m_is_number [.bl x, .int g] st = .ok (.bl false) st := by simp [m_is_number, g_is_number, isiB]
theorem odd_pick (c : List Ins) (h2 : 2 ≤ c.length) (l : List D) (hl : l = [.tup [.non, .int 1], .tup [.int (-1), .int 1], .tup [.int c.length, .int 1], .tup [.bl true, .int 1], .tup [.int 1, .int 1], .tup [.int 1, .int 0], .tup [.int 0, .int c.length], .tup [.int 0, .non], .tup [.int 0, .bl true], .tup [.str "0", .int 1]]) (d : D) (hd : d ∈ l) : ∃ a b, d = .tup [a, b] ∧ NoPlace c a b := by
  subst hl
  have number_go : ∀ (v g : Int) (st : Sto), m_is_number [.int v, .int g] st = .ok (.bl (decide (0 ≤ v ∧ v ≤ g))) st := number_go
  have h3 : (1 : Int) ≤ (c.length : Int) - 1 := by omega
  have h4 : (0 : Int) ≤ (c.length : Int) - 1 := by omega
  have h6 : ¬ (c.length : Int) ≤ (c.length : Int) - 1 := by omega
  simp only [List.mem_cons, List.not_mem_nil, or_false] at hd
  rcases hd with rfl | rfl | rfl | rfl | rfl | rfl | rfl | rfl | rfl | rfl <;> refine ⟨_, _, rfl, fun st => ?_⟩ <;> simp [m_check_places, g_check_places, number_go, nn_go, ns_go, nb_go, sRaise, h3, h4, h6]
/-! designs that are none -/
theorem des_pick (l : List D) (hl : l = [.non, .lst [.str "rr"], .tup [.str "ww", .str "rr"], .tup [.str "rr", .str "rr"], .tup [.str "xx"], .str "rr"]) (d : D) (hd : d ∈ l) (a b e : D) (st : Sto) : m_must_be_done [d, a, b, e] st = .exn ⟨"BadDesign", none⟩ st := by
  subst hl
  have h : m_is_design [d] st = .ok (.bl false) st := by
    have t1 := is_design_strs ["ww", "rr"] (by decide +kernel) st
    have t2 := is_design_strs ["rr", "rr"] (by decide +kernel) st
    have t3 := is_design_strs ["xx"] (by decide +kernel) st
    rw [decide_eq_false (by decide +kernel)] at t1
    rw [decide_eq_false (by decide +kernel)] at t2
    rw [decide_eq_false (by decide +kernel)] at t3
    simp only [List.map_cons, List.map_nil] at t1 t2 t3
    simp only [List.mem_cons, List.not_mem_nil, or_false] at hd
    rcases hd with rfl | rfl | rfl | rfl | rfl | rfl
    · simp [m_is_design, g_is_design, isiB]
    · simp [m_is_design, g_is_design, isiB]
    · exact t1
    · exact t2
    · exact t3
    · simp [m_is_design, g_is_design, isiB]
  simp [m_must_be_done, g_must_be_done, m_check_design, g_check_design, h, sRaise]
end K04

set_option Elab.async false
set_option linter.all false
set_option maxRecDepth 100000
set_option maxHeartbeats 8000000
namespace K04
open PySem PySem.Spec L2 DL
open PyProof.Rows hiding St
def wrOut (tw : List (Str × D)) (dz : D) (o : Out D) : Out D := match o with
  | .ok _ s1 => .ok dz s1
  | .exn x s1 => (match x.fld, tw.lookup x.cls with
      | none, some d => .ok d s1
      | _, _ => .bad)
  | .bad => .bad
theorem e_wrong {q : Str} {tw : List (Str × D)} {dz : D} {gb : G D} {ρ : DL.Env} {r : Sto} : gWrong q tw dz gb ρ (.tab q :: r) = wrOut tw dz (gb ρ (.tab q :: r)) := by
  unfold gWrong wrOut
  simp only [List.getElem?_cons_zero, if_true]
  all_goals (cases gb ρ (.tab q :: r) <;> rfl)
theorem wrOut_exn {tw : List (Str × D)} {dz d : D} {n : Str} {s1 : Sto} (h : tw.lookup n = some d) : wrOut tw dz (.exn ⟨n, none⟩ s1) = .ok d s1 := by
  unfold wrOut
  simp [h]
theorem law_go (ns : List Int) (sc : D) (hsc : sc = .ro (ns.map D.int) ∨ sc = .lst (ns.map D.int)) : ∃ st, m_law [sc] [.tab lamQ] = .ok (.bl true) st := by
  have hS := scr_of hsc
  obtain ⟨sub, p1, q1, c1, e1, hs, hp1⟩ := design_go ns sc hS (.tab lamQ) 0 14244 0 [] (by decide)
  obtain ⟨k, p2, q2, c2, e2, k0, k4, hp2⟩ := taken_go ns sc hS (.tab lamQ) 4 (by decide) (by decide) p1 q1 c1 [] hp1
  obtain ⟨c, p3, q3, c3, e3, hc, hl, hp3⟩ := ins_comp ns sc hS (.tab lamQ) [some sc, some (.ref 1), some (.tup (sub.map D.str)), none, none, none, none, none, none, none, none] rfl [] (intsD 0 (2 + k).toNat) p2 q2 c2 hp2
  have hlen : c.length = (2 + k).toNat := by rw [hl]; simp [intsD]
  have h2 : 2 ≤ c.length := by omega
  have h5 : c.length ≤ 5 := by omega
  have hk1 : 2 + k ≤ 1000000 := by omega
  have hk2 : -1000000 ≤ 2 + k := by omega
  obtain ⟨z, z2, e4⟩ := outer_go hs hc h5 (.tab lamQ :: rowS sc p3 q3 c3 :: []) (some sc) (some (.ref 1)) none none none none none (List.range c.length) (fun j hj => List.mem_range.mp hj) none none
  rw [← ints_map] at e4
  obtain ⟨bads, hb⟩ : ∃ l : List D, l = [.non, .lst (c.map Ins.enc), .tup (List.replicate 3 (c.map Ins.enc)).flatten, .tup (c.map Ins.enc ++ [.non]), .tup [.tup [.str "read", .int 2, .int 0]], .tup [.tup [.str "read", .int 0, .int 3]], .tup [.tup [.str "write", .int 0, .int 10]], .tup [.tup [.str "fence", .int 0]], .str "core"] := ⟨_, rfl⟩
  obtain ⟨bad, p4, q4, c4, e5, hbad, hp4⟩ := pick_go ns sc hS (.tab lamQ) bads (by rw [hb]; simp) (by rw [hb]; simp) p3 q3 c3 [] hp3
  have hnc := bad_pick c hc h2 bads hb bad hbad
  obtain ⟨odds, ho⟩ : ∃ l : List D, l = [.tup [.non, .int 1], .tup [.int (-1), .int 1], .tup [.int c.length, .int 1], .tup [.bl true, .int 1], .tup [.int 1, .int 1], .tup [.int 1, .int 0], .tup [.int 0, .int c.length], .tup [.int 0, .non], .tup [.int 0, .bl true], .tup [.str "0", .int 1]] := ⟨_, rfl⟩
  obtain ⟨k2, p5, q5, c5, e6, f0, f10, hp5⟩ := taken_go ns sc hS (.tab lamQ) 10 (by decide) (by decide) p4 q4 c4 [] hp4
  have hol : odds.length = 10 := by rw [ho]; rfl
  have hi : k2.toNat < odds.length := by omega
  have hx : atI odds k2 = some odds[k2.toNat] := atI_nat' f0 (by simp [hi])
  obtain ⟨fa, fb, hd, hnp⟩ := odd_pick c h2 odds ho _ (List.getElem_mem hi)
  rw [hd] at hx
  obtain ⟨dess, hde⟩ : ∃ l : List D, l = [.non, .lst [.str "rr"], .tup [.str "ww", .str "rr"], .tup [.str "rr", .str "rr"], .tup [.str "xx"], .str "rr"] := ⟨_, rfl⟩
  obtain ⟨de, p6, q6, c6, e7, hdes, hp6⟩ := pick_go ns sc hS (.tab lamQ) dess (by rw [hde]; simp) (by rw [hde]; simp) p5 q5 c5 [] hp5
  have hdd := fun st => des_pick dess hde de hdes .non .non .non st
  rw [hb] at e5
  rw [ho] at hx
  rw [hde] at e7
  have w1 : wr_tab.lookup ("BadCore" : Str) = some (D.str "core") := by simp [wr_tab, List.lookup]
  have w2 : wr_tab.lookup ("BadPlace" : Str) = some (D.str "place") := by simp [wr_tab, List.lookup]
  have w3 : wr_tab.lookup ("BadDesign" : Str) = some (D.str "design") := by simp [wr_tab, List.lookup]
  have cb := fun st => core_bad hs hnc .non .non st
  have pb := fun st => place_bad hs hc h5 hnp st
  refine ⟨.tab lamQ :: rowS sc p6 q6 c6 :: [], ?_⟩
  have e1' : m__law_design [D.ref 1] (.tab lamQ :: [.lst [sc, .int 0, .int 14244, .int 0]]) = _ := e1
  have r1 : ∀ st, mRep (.tup (c.map Ins.enc)) (.int 3) st = some (.tup (List.replicate 3 (c.map Ins.enc)).flatten) := fun st => by
    show (if (c.map Ins.enc) ≠ [] ∧ (2 : Int) ≤ 3 ∧ (3 : Int) ≤ 1000 ∧ (c.map Ins.enc).length ≤ 1000 then some (D.tup (List.replicate (3 : Int).toNat (c.map Ins.enc)).flatten) else none) = _
    rw [if_pos ⟨by intro h; rw [List.map_eq_nil_iff] at h; rw [h] at h2; exact absurd h2 (by decide), by decide, by decide, by simp; omega⟩]
    rfl
  generalize (List.replicate 3 (c.map Ins.enc)).flatten = core3 at e5 r1
  have r2 : ∀ st, mAdd (.tup (c.map Ins.enc)) (.tup [.non]) st = some (.tup (c.map Ins.enc ++ [.non])) := fun st => by
    rw [o_addt, if_pos (by simp [LIM]; omega)]
  have l1 : (c.length : Int) ≤ 1000000 := by omega
  simp [-o_addt, r1, r2, l1, m_law, g_law, e1, e2, e3, hk1, hk2, e4, e5, hx, e6, e7, e_wrong, cb, pb, hdd, wrOut_exn w1, wrOut_exn w2, wrOut_exn w3, patOut, Pat.set, Pats.set]
end K04

set_option Elab.async false
set_option linter.all false
set_option maxRecDepth 100000
set_option maxHeartbeats 2000000
namespace K04
open PySem PySem.Spec L2 DL
open PyProof.Rows hiding St
theorem all_mk {l : PySem.W.OpenLaw} {w : World} {K : PySem.W.Frag} {h : Heap} {mg : Str → Option Value} {fa : Addr} (X : K.In h) (G : h.Ns mainGlobals mg) (hfa : mg "law" = some (.ref fa))
    {f__law_alike : Addr} {od__law_alike an__law_alike : Option Addr} {sl__law_alike : Array (Option Value)} {oc__law_alike kV__law_alike dc__law_alike pm__law_alike cd__law_alike ct__law_alike : Value}
    (a__law_alike : PySem.W.nsIn K mainGlobals "_law_alike" = some (some (.ref f__law_alike))) (l__law_alike : K.lookup f__law_alike = some ⟨oc__law_alike, od__law_alike, .func (PySem.W.fnOf "_law_alike" "_law_alike" (defArgs s__law_alike) (defBody s__law_alike) (defScope s__law_alike) .none kV__law_alike dc__law_alike pm__law_alike an__law_alike cd__law_alike ct__law_alike), sl__law_alike⟩) (w__law_alike : PySem.W.codeIn K cd__law_alike "_law_alike" = true) (k__law_alike : PySem.W.keepIn K (.ref f__law_alike) = true)
    {f__law_taken : Addr} {od__law_taken an__law_taken : Option Addr} {sl__law_taken : Array (Option Value)} {oc__law_taken kV__law_taken dc__law_taken pm__law_taken cd__law_taken ct__law_taken : Value}
    (a__law_taken : PySem.W.nsIn K mainGlobals "_law_taken" = some (some (.ref f__law_taken))) (l__law_taken : K.lookup f__law_taken = some ⟨oc__law_taken, od__law_taken, .func (PySem.W.fnOf "_law_taken" "_law_taken" (defArgs s__law_taken) (defBody s__law_taken) (defScope s__law_taken) .none kV__law_taken dc__law_taken pm__law_taken an__law_taken cd__law_taken ct__law_taken), sl__law_taken⟩) (w__law_taken : PySem.W.codeIn K cd__law_taken "_law_taken" = true) (k__law_taken : PySem.W.keepIn K (.ref f__law_taken) = true)
    {f__law_design : Addr} {od__law_design an__law_design : Option Addr} {sl__law_design : Array (Option Value)} {oc__law_design kV__law_design dc__law_design pm__law_design cd__law_design ct__law_design : Value}
    (a__law_design : PySem.W.nsIn K mainGlobals "_law_design" = some (some (.ref f__law_design))) (l__law_design : K.lookup f__law_design = some ⟨oc__law_design, od__law_design, .func (PySem.W.fnOf "_law_design" "_law_design" (defArgs s__law_design) (defBody s__law_design) (defScope s__law_design) .none kV__law_design dc__law_design pm__law_design an__law_design cd__law_design ct__law_design), sl__law_design⟩) (w__law_design : PySem.W.codeIn K cd__law_design "_law_design" = true) (k__law_design : PySem.W.keepIn K (.ref f__law_design) = true)
    {f__law_pick : Addr} {od__law_pick an__law_pick : Option Addr} {sl__law_pick : Array (Option Value)} {oc__law_pick kV__law_pick dc__law_pick pm__law_pick cd__law_pick ct__law_pick : Value}
    (a__law_pick : PySem.W.nsIn K mainGlobals "_law_pick" = some (some (.ref f__law_pick))) (l__law_pick : K.lookup f__law_pick = some ⟨oc__law_pick, od__law_pick, .func (PySem.W.fnOf "_law_pick" "_law_pick" (defArgs s__law_pick) (defBody s__law_pick) (defScope s__law_pick) .none kV__law_pick dc__law_pick pm__law_pick an__law_pick cd__law_pick ct__law_pick), sl__law_pick⟩) (w__law_pick : PySem.W.codeIn K cd__law_pick "_law_pick" = true) (k__law_pick : PySem.W.keepIn K (.ref f__law_pick) = true)
    {f__law_instruction : Addr} {od__law_instruction an__law_instruction : Option Addr} {sl__law_instruction : Array (Option Value)} {oc__law_instruction kV__law_instruction dc__law_instruction pm__law_instruction cd__law_instruction ct__law_instruction : Value}
    (a__law_instruction : PySem.W.nsIn K mainGlobals "_law_instruction" = some (some (.ref f__law_instruction))) (l__law_instruction : K.lookup f__law_instruction = some ⟨oc__law_instruction, od__law_instruction, .func (PySem.W.fnOf "_law_instruction" "_law_instruction" (defArgs s__law_instruction) (defBody s__law_instruction) (defScope s__law_instruction) .none kV__law_instruction dc__law_instruction pm__law_instruction an__law_instruction cd__law_instruction ct__law_instruction), sl__law_instruction⟩) (w__law_instruction : PySem.W.codeIn K cd__law_instruction "_law_instruction" = true) (k__law_instruction : PySem.W.keepIn K (.ref f__law_instruction) = true)
    {f__law_cell : Addr} {od__law_cell an__law_cell : Option Addr} {sl__law_cell : Array (Option Value)} {oc__law_cell kV__law_cell dc__law_cell pm__law_cell cd__law_cell ct__law_cell : Value}
    (a__law_cell : PySem.W.nsIn K mainGlobals "_law_cell" = some (some (.ref f__law_cell))) (l__law_cell : K.lookup f__law_cell = some ⟨oc__law_cell, od__law_cell, .func (PySem.W.fnOf "_law_cell" "_law_cell" (defArgs s__law_cell) (defBody s__law_cell) (defScope s__law_cell) .none kV__law_cell dc__law_cell pm__law_cell an__law_cell cd__law_cell ct__law_cell), sl__law_cell⟩) (w__law_cell : PySem.W.codeIn K cd__law_cell "_law_cell" = true) (k__law_cell : PySem.W.keepIn K (.ref f__law_cell) = true)
    {f__law_last : Addr} {od__law_last an__law_last : Option Addr} {sl__law_last : Array (Option Value)} {oc__law_last kV__law_last dc__law_last pm__law_last cd__law_last ct__law_last : Value}
    (a__law_last : PySem.W.nsIn K mainGlobals "_law_last" = some (some (.ref f__law_last))) (l__law_last : K.lookup f__law_last = some ⟨oc__law_last, od__law_last, .func (PySem.W.fnOf "_law_last" "_law_last" (defArgs s__law_last) (defBody s__law_last) (defScope s__law_last) .none kV__law_last dc__law_last pm__law_last an__law_last cd__law_last ct__law_last), sl__law_last⟩) (w__law_last : PySem.W.codeIn K cd__law_last "_law_last" = true) (k__law_last : PySem.W.keepIn K (.ref f__law_last) = true)
    {f__law_letter : Addr} {od__law_letter an__law_letter : Option Addr} {sl__law_letter : Array (Option Value)} {oc__law_letter kV__law_letter dc__law_letter pm__law_letter cd__law_letter ct__law_letter : Value}
    (a__law_letter : PySem.W.nsIn K mainGlobals "_law_letter" = some (some (.ref f__law_letter))) (l__law_letter : K.lookup f__law_letter = some ⟨oc__law_letter, od__law_letter, .func (PySem.W.fnOf "_law_letter" "_law_letter" (defArgs s__law_letter) (defBody s__law_letter) (defScope s__law_letter) .none kV__law_letter dc__law_letter pm__law_letter an__law_letter cd__law_letter ct__law_letter), sl__law_letter⟩) (w__law_letter : PySem.W.codeIn K cd__law_letter "_law_letter" = true) (k__law_letter : PySem.W.keepIn K (.ref f__law_letter) = true)
    {f__law_must : Addr} {od__law_must an__law_must : Option Addr} {sl__law_must : Array (Option Value)} {oc__law_must kV__law_must dc__law_must pm__law_must cd__law_must ct__law_must : Value}
    (a__law_must : PySem.W.nsIn K mainGlobals "_law_must" = some (some (.ref f__law_must))) (l__law_must : K.lookup f__law_must = some ⟨oc__law_must, od__law_must, .func (PySem.W.fnOf "_law_must" "_law_must" (defArgs s__law_must) (defBody s__law_must) (defScope s__law_must) .none kV__law_must dc__law_must pm__law_must an__law_must cd__law_must ct__law_must), sl__law_must⟩) (w__law_must : PySem.W.codeIn K cd__law_must "_law_must" = true) (k__law_must : PySem.W.keepIn K (.ref f__law_must) = true)
    {f_is_number : Addr} {od_is_number an_is_number : Option Addr} {sl_is_number : Array (Option Value)} {oc_is_number kV_is_number dc_is_number pm_is_number cd_is_number ct_is_number : Value}
    (a_is_number : PySem.W.nsIn K mainGlobals "is_number" = some (some (.ref f_is_number))) (l_is_number : K.lookup f_is_number = some ⟨oc_is_number, od_is_number, .func (PySem.W.fnOf "is_number" "is_number" (defArgs s_is_number) (defBody s_is_number) (defScope s_is_number) .none kV_is_number dc_is_number pm_is_number an_is_number cd_is_number ct_is_number), sl_is_number⟩) (w_is_number : PySem.W.codeIn K cd_is_number "is_number" = true) (k_is_number : PySem.W.keepIn K (.ref f_is_number) = true)
    {f_is_instruction : Addr} {od_is_instruction an_is_instruction : Option Addr} {sl_is_instruction : Array (Option Value)} {oc_is_instruction kV_is_instruction dc_is_instruction pm_is_instruction cd_is_instruction ct_is_instruction : Value}
    (a_is_instruction : PySem.W.nsIn K mainGlobals "is_instruction" = some (some (.ref f_is_instruction))) (l_is_instruction : K.lookup f_is_instruction = some ⟨oc_is_instruction, od_is_instruction, .func (PySem.W.fnOf "is_instruction" "is_instruction" (defArgs s_is_instruction) (defBody s_is_instruction) (defScope s_is_instruction) .none kV_is_instruction dc_is_instruction pm_is_instruction an_is_instruction cd_is_instruction ct_is_instruction), sl_is_instruction⟩) (w_is_instruction : PySem.W.codeIn K cd_is_instruction "is_instruction" = true) (k_is_instruction : PySem.W.keepIn K (.ref f_is_instruction) = true)
    {f_is_core : Addr} {od_is_core an_is_core : Option Addr} {sl_is_core : Array (Option Value)} {oc_is_core kV_is_core dc_is_core pm_is_core cd_is_core ct_is_core : Value}
    (a_is_core : PySem.W.nsIn K mainGlobals "is_core" = some (some (.ref f_is_core))) (l_is_core : K.lookup f_is_core = some ⟨oc_is_core, od_is_core, .func (PySem.W.fnOf "is_core" "is_core" (defArgs s_is_core) (defBody s_is_core) (defScope s_is_core) .none kV_is_core dc_is_core pm_is_core an_is_core cd_is_core ct_is_core), sl_is_core⟩) (w_is_core : PySem.W.codeIn K cd_is_core "is_core" = true) (k_is_core : PySem.W.keepIn K (.ref f_is_core) = true)
    {f_check_core : Addr} {od_check_core an_check_core : Option Addr} {sl_check_core : Array (Option Value)} {oc_check_core kV_check_core dc_check_core pm_check_core cd_check_core ct_check_core : Value}
    (a_check_core : PySem.W.nsIn K mainGlobals "check_core" = some (some (.ref f_check_core))) (l_check_core : K.lookup f_check_core = some ⟨oc_check_core, od_check_core, .func (PySem.W.fnOf "check_core" "check_core" (defArgs s_check_core) (defBody s_check_core) (defScope s_check_core) .none kV_check_core dc_check_core pm_check_core an_check_core cd_check_core ct_check_core), sl_check_core⟩) (w_check_core : PySem.W.codeIn K cd_check_core "check_core" = true) (k_check_core : PySem.W.keepIn K (.ref f_check_core) = true)
    {f_is_design : Addr} {od_is_design an_is_design : Option Addr} {sl_is_design : Array (Option Value)} {oc_is_design kV_is_design dc_is_design pm_is_design cd_is_design ct_is_design : Value}
    (a_is_design : PySem.W.nsIn K mainGlobals "is_design" = some (some (.ref f_is_design))) (l_is_design : K.lookup f_is_design = some ⟨oc_is_design, od_is_design, .func (PySem.W.fnOf "is_design" "is_design" (defArgs s_is_design) (defBody s_is_design) (defScope s_is_design) .none kV_is_design dc_is_design pm_is_design an_is_design cd_is_design ct_is_design), sl_is_design⟩) (w_is_design : PySem.W.codeIn K cd_is_design "is_design" = true) (k_is_design : PySem.W.keepIn K (.ref f_is_design) = true)
    {f_check_design : Addr} {od_check_design an_check_design : Option Addr} {sl_check_design : Array (Option Value)} {oc_check_design kV_check_design dc_check_design pm_check_design cd_check_design ct_check_design : Value}
    (a_check_design : PySem.W.nsIn K mainGlobals "check_design" = some (some (.ref f_check_design))) (l_check_design : K.lookup f_check_design = some ⟨oc_check_design, od_check_design, .func (PySem.W.fnOf "check_design" "check_design" (defArgs s_check_design) (defBody s_check_design) (defScope s_check_design) .none kV_check_design dc_check_design pm_check_design an_check_design cd_check_design ct_check_design), sl_check_design⟩) (w_check_design : PySem.W.codeIn K cd_check_design "check_design" = true) (k_check_design : PySem.W.keepIn K (.ref f_check_design) = true)
    {f_check_places : Addr} {od_check_places an_check_places : Option Addr} {sl_check_places : Array (Option Value)} {oc_check_places kV_check_places dc_check_places pm_check_places cd_check_places ct_check_places : Value}
    (a_check_places : PySem.W.nsIn K mainGlobals "check_places" = some (some (.ref f_check_places))) (l_check_places : K.lookup f_check_places = some ⟨oc_check_places, od_check_places, .func (PySem.W.fnOf "check_places" "check_places" (defArgs s_check_places) (defBody s_check_places) (defScope s_check_places) .none kV_check_places dc_check_places pm_check_places an_check_places cd_check_places ct_check_places), sl_check_places⟩) (w_check_places : PySem.W.codeIn K cd_check_places "check_places" = true) (k_check_places : PySem.W.keepIn K (.ref f_check_places) = true)
    {f_is_reading : Addr} {od_is_reading an_is_reading : Option Addr} {sl_is_reading : Array (Option Value)} {oc_is_reading kV_is_reading dc_is_reading pm_is_reading cd_is_reading ct_is_reading : Value}
    (a_is_reading : PySem.W.nsIn K mainGlobals "is_reading" = some (some (.ref f_is_reading))) (l_is_reading : K.lookup f_is_reading = some ⟨oc_is_reading, od_is_reading, .func (PySem.W.fnOf "is_reading" "is_reading" (defArgs s_is_reading) (defBody s_is_reading) (defScope s_is_reading) .none kV_is_reading dc_is_reading pm_is_reading an_is_reading cd_is_reading ct_is_reading), sl_is_reading⟩) (w_is_reading : PySem.W.codeIn K cd_is_reading "is_reading" = true) (k_is_reading : PySem.W.keepIn K (.ref f_is_reading) = true)
    {f_is_writing : Addr} {od_is_writing an_is_writing : Option Addr} {sl_is_writing : Array (Option Value)} {oc_is_writing kV_is_writing dc_is_writing pm_is_writing cd_is_writing ct_is_writing : Value}
    (a_is_writing : PySem.W.nsIn K mainGlobals "is_writing" = some (some (.ref f_is_writing))) (l_is_writing : K.lookup f_is_writing = some ⟨oc_is_writing, od_is_writing, .func (PySem.W.fnOf "is_writing" "is_writing" (defArgs s_is_writing) (defBody s_is_writing) (defScope s_is_writing) .none kV_is_writing dc_is_writing pm_is_writing an_is_writing cd_is_writing ct_is_writing), sl_is_writing⟩) (w_is_writing : PySem.W.codeIn K cd_is_writing "is_writing" = true) (k_is_writing : PySem.W.keepIn K (.ref f_is_writing) = true)
    {f_cell_of : Addr} {od_cell_of an_cell_of : Option Addr} {sl_cell_of : Array (Option Value)} {oc_cell_of kV_cell_of dc_cell_of pm_cell_of cd_cell_of ct_cell_of : Value}
    (a_cell_of : PySem.W.nsIn K mainGlobals "cell_of" = some (some (.ref f_cell_of))) (l_cell_of : K.lookup f_cell_of = some ⟨oc_cell_of, od_cell_of, .func (PySem.W.fnOf "cell_of" "cell_of" (defArgs s_cell_of) (defBody s_cell_of) (defScope s_cell_of) .none kV_cell_of dc_cell_of pm_cell_of an_cell_of cd_cell_of ct_cell_of), sl_cell_of⟩) (w_cell_of : PySem.W.codeIn K cd_cell_of "cell_of" = true) (k_cell_of : PySem.W.keepIn K (.ref f_cell_of) = true)
    {f_is_kept_behind_guard : Addr} {od_is_kept_behind_guard an_is_kept_behind_guard : Option Addr} {sl_is_kept_behind_guard : Array (Option Value)} {oc_is_kept_behind_guard kV_is_kept_behind_guard dc_is_kept_behind_guard pm_is_kept_behind_guard cd_is_kept_behind_guard ct_is_kept_behind_guard : Value}
    (a_is_kept_behind_guard : PySem.W.nsIn K mainGlobals "is_kept_behind_guard" = some (some (.ref f_is_kept_behind_guard))) (l_is_kept_behind_guard : K.lookup f_is_kept_behind_guard = some ⟨oc_is_kept_behind_guard, od_is_kept_behind_guard, .func (PySem.W.fnOf "is_kept_behind_guard" "is_kept_behind_guard" (defArgs s_is_kept_behind_guard) (defBody s_is_kept_behind_guard) (defScope s_is_kept_behind_guard) .none kV_is_kept_behind_guard dc_is_kept_behind_guard pm_is_kept_behind_guard an_is_kept_behind_guard cd_is_kept_behind_guard ct_is_kept_behind_guard), sl_is_kept_behind_guard⟩) (w_is_kept_behind_guard : PySem.W.codeIn K cd_is_kept_behind_guard "is_kept_behind_guard" = true) (k_is_kept_behind_guard : PySem.W.keepIn K (.ref f_is_kept_behind_guard) = true)
    {f_is_kept_on_cell : Addr} {od_is_kept_on_cell an_is_kept_on_cell : Option Addr} {sl_is_kept_on_cell : Array (Option Value)} {oc_is_kept_on_cell kV_is_kept_on_cell dc_is_kept_on_cell pm_is_kept_on_cell cd_is_kept_on_cell ct_is_kept_on_cell : Value}
    (a_is_kept_on_cell : PySem.W.nsIn K mainGlobals "is_kept_on_cell" = some (some (.ref f_is_kept_on_cell))) (l_is_kept_on_cell : K.lookup f_is_kept_on_cell = some ⟨oc_is_kept_on_cell, od_is_kept_on_cell, .func (PySem.W.fnOf "is_kept_on_cell" "is_kept_on_cell" (defArgs s_is_kept_on_cell) (defBody s_is_kept_on_cell) (defScope s_is_kept_on_cell) .none kV_is_kept_on_cell dc_is_kept_on_cell pm_is_kept_on_cell an_is_kept_on_cell cd_is_kept_on_cell ct_is_kept_on_cell), sl_is_kept_on_cell⟩) (w_is_kept_on_cell : PySem.W.codeIn K cd_is_kept_on_cell "is_kept_on_cell" = true) (k_is_kept_on_cell : PySem.W.keepIn K (.ref f_is_kept_on_cell) = true)
    {f_kind_of : Addr} {od_kind_of an_kind_of : Option Addr} {sl_kind_of : Array (Option Value)} {oc_kind_of kV_kind_of dc_kind_of pm_kind_of cd_kind_of ct_kind_of : Value}
    (a_kind_of : PySem.W.nsIn K mainGlobals "kind_of" = some (some (.ref f_kind_of))) (l_kind_of : K.lookup f_kind_of = some ⟨oc_kind_of, od_kind_of, .func (PySem.W.fnOf "kind_of" "kind_of" (defArgs s_kind_of) (defBody s_kind_of) (defScope s_kind_of) .none kV_kind_of dc_kind_of pm_kind_of an_kind_of cd_kind_of ct_kind_of), sl_kind_of⟩) (w_kind_of : PySem.W.codeIn K cd_kind_of "kind_of" = true) (k_kind_of : PySem.W.keepIn K (.ref f_kind_of) = true)
    {f_last_read : Addr} {od_last_read an_last_read : Option Addr} {sl_last_read : Array (Option Value)} {oc_last_read kV_last_read dc_last_read pm_last_read cd_last_read ct_last_read : Value}
    (a_last_read : PySem.W.nsIn K mainGlobals "last_read" = some (some (.ref f_last_read))) (l_last_read : K.lookup f_last_read = some ⟨oc_last_read, od_last_read, .func (PySem.W.fnOf "last_read" "last_read" (defArgs s_last_read) (defBody s_last_read) (defScope s_last_read) .none kV_last_read dc_last_read pm_last_read an_last_read cd_last_read ct_last_read), sl_last_read⟩) (w_last_read : PySem.W.codeIn K cd_last_read "last_read" = true) (k_last_read : PySem.W.keepIn K (.ref f_last_read) = true)
    {f_used_by : Addr} {od_used_by an_used_by : Option Addr} {sl_used_by : Array (Option Value)} {oc_used_by kV_used_by dc_used_by pm_used_by cd_used_by ct_used_by : Value}
    (a_used_by : PySem.W.nsIn K mainGlobals "used_by" = some (some (.ref f_used_by))) (l_used_by : K.lookup f_used_by = some ⟨oc_used_by, od_used_by, .func (PySem.W.fnOf "used_by" "used_by" (defArgs s_used_by) (defBody s_used_by) (defScope s_used_by) .none kV_used_by dc_used_by pm_used_by an_used_by cd_used_by ct_used_by), sl_used_by⟩) (w_used_by : PySem.W.codeIn K cd_used_by "used_by" = true) (k_used_by : PySem.W.keepIn K (.ref f_used_by) = true)
    {f_is_kept : Addr} {od_is_kept an_is_kept : Option Addr} {sl_is_kept : Array (Option Value)} {oc_is_kept kV_is_kept dc_is_kept pm_is_kept cd_is_kept ct_is_kept : Value}
    (a_is_kept : PySem.W.nsIn K mainGlobals "is_kept" = some (some (.ref f_is_kept))) (l_is_kept : K.lookup f_is_kept = some ⟨oc_is_kept, od_is_kept, .func (PySem.W.fnOf "is_kept" "is_kept" (defArgs s_is_kept) (defBody s_is_kept) (defScope s_is_kept) .none kV_is_kept dc_is_kept pm_is_kept an_is_kept cd_is_kept ct_is_kept), sl_is_kept⟩) (w_is_kept : PySem.W.codeIn K cd_is_kept "is_kept" = true) (k_is_kept : PySem.W.keepIn K (.ref f_is_kept) = true)
    {f_last_writing : Addr} {od_last_writing an_last_writing : Option Addr} {sl_last_writing : Array (Option Value)} {oc_last_writing kV_last_writing dc_last_writing pm_last_writing cd_last_writing ct_last_writing : Value}
    (a_last_writing : PySem.W.nsIn K mainGlobals "last_writing" = some (some (.ref f_last_writing))) (l_last_writing : K.lookup f_last_writing = some ⟨oc_last_writing, od_last_writing, .func (PySem.W.fnOf "last_writing" "last_writing" (defArgs s_last_writing) (defBody s_last_writing) (defScope s_last_writing) .none kV_last_writing dc_last_writing pm_last_writing an_last_writing cd_last_writing ct_last_writing), sl_last_writing⟩) (w_last_writing : PySem.W.codeIn K cd_last_writing "last_writing" = true) (k_last_writing : PySem.W.keepIn K (.ref f_last_writing) = true)
    {f_waits_for_copied : Addr} {od_waits_for_copied an_waits_for_copied : Option Addr} {sl_waits_for_copied : Array (Option Value)} {oc_waits_for_copied kV_waits_for_copied dc_waits_for_copied pm_waits_for_copied cd_waits_for_copied ct_waits_for_copied : Value}
    (a_waits_for_copied : PySem.W.nsIn K mainGlobals "waits_for_copied" = some (some (.ref f_waits_for_copied))) (l_waits_for_copied : K.lookup f_waits_for_copied = some ⟨oc_waits_for_copied, od_waits_for_copied, .func (PySem.W.fnOf "waits_for_copied" "waits_for_copied" (defArgs s_waits_for_copied) (defBody s_waits_for_copied) (defScope s_waits_for_copied) .none kV_waits_for_copied dc_waits_for_copied pm_waits_for_copied an_waits_for_copied cd_waits_for_copied ct_waits_for_copied), sl_waits_for_copied⟩) (w_waits_for_copied : PySem.W.codeIn K cd_waits_for_copied "waits_for_copied" = true) (k_waits_for_copied : PySem.W.keepIn K (.ref f_waits_for_copied) = true)
    {f_must_wait : Addr} {od_must_wait an_must_wait : Option Addr} {sl_must_wait : Array (Option Value)} {oc_must_wait kV_must_wait dc_must_wait pm_must_wait cd_must_wait ct_must_wait : Value}
    (a_must_wait : PySem.W.nsIn K mainGlobals "must_wait" = some (some (.ref f_must_wait))) (l_must_wait : K.lookup f_must_wait = some ⟨oc_must_wait, od_must_wait, .func (PySem.W.fnOf "must_wait" "must_wait" (defArgs s_must_wait) (defBody s_must_wait) (defScope s_must_wait) .none kV_must_wait dc_must_wait pm_must_wait an_must_wait cd_must_wait ct_must_wait), sl_must_wait⟩) (w_must_wait : PySem.W.codeIn K cd_must_wait "must_wait" = true) (k_must_wait : PySem.W.keepIn K (.ref f_must_wait) = true)
    {f_must_be_done : Addr} {od_must_be_done an_must_be_done : Option Addr} {sl_must_be_done : Array (Option Value)} {oc_must_be_done kV_must_be_done dc_must_be_done pm_must_be_done cd_must_be_done ct_must_be_done : Value}
    (a_must_be_done : PySem.W.nsIn K mainGlobals "must_be_done" = some (some (.ref f_must_be_done))) (l_must_be_done : K.lookup f_must_be_done = some ⟨oc_must_be_done, od_must_be_done, .func (PySem.W.fnOf "must_be_done" "must_be_done" (defArgs s_must_be_done) (defBody s_must_be_done) (defScope s_must_be_done) .none kV_must_be_done dc_must_be_done pm_must_be_done an_must_be_done cd_must_be_done ct_must_be_done), sl_must_be_done⟩) (w_must_be_done : PySem.W.codeIn K cd_must_be_done "must_be_done" = true) (k_must_be_done : PySem.W.keepIn K (.ref f_must_be_done) = true)
    {f__law_wrong : Addr} {od__law_wrong an__law_wrong : Option Addr} {sl__law_wrong : Array (Option Value)} {oc__law_wrong kV__law_wrong dc__law_wrong pm__law_wrong cd__law_wrong ct__law_wrong : Value}
    (a__law_wrong : PySem.W.nsIn K mainGlobals "_law_wrong" = some (some (.ref f__law_wrong))) (l__law_wrong : K.lookup f__law_wrong = some ⟨oc__law_wrong, od__law_wrong, .func (PySem.W.fnOf "_law_wrong" "_law_wrong" (defArgs s__law_wrong) (defBody s__law_wrong) (defScope s__law_wrong) .none kV__law_wrong dc__law_wrong pm__law_wrong an__law_wrong cd__law_wrong ct__law_wrong), sl__law_wrong⟩) (w__law_wrong : PySem.W.codeIn K cd__law_wrong "_law_wrong" = true) (k__law_wrong : PySem.W.keepIn K (.ref f__law_wrong) = true)
    {f_law : Addr} {od_law an_law : Option Addr} {sl_law : Array (Option Value)} {oc_law kV_law dc_law pm_law cd_law ct_law : Value}
    (a_law : PySem.W.nsIn K mainGlobals "law" = some (some (.ref f_law))) (l_law : K.lookup f_law = some ⟨oc_law, od_law, .func (PySem.W.fnOf "law" "law" (defArgs s_law) (defBody s_law) (defScope s_law) .none kV_law dc_law pm_law an_law cd_law ct_law), sl_law⟩) (w_law : PySem.W.codeIn K cd_law "law" = true) (k_law : PySem.W.keepIn K (.ref f_law) = true)
    (z_all : PySem.W.nsIn K mainGlobals "all" = some none)
    (z_bool : PySem.W.nsIn K mainGlobals "bool" = some none)
    (z_int : PySem.W.nsIn K mainGlobals "int" = some none)
    (z_isinstance : PySem.W.nsIn K mainGlobals "isinstance" = some none)
    (z_len : PySem.W.nsIn K mainGlobals "len" = some none)
    (z_list : PySem.W.nsIn K mainGlobals "list" = some none)
    (z_range : PySem.W.nsIn K mainGlobals "range" = some none)
    (z_str : PySem.W.nsIn K mainGlobals "str" = some none)
    (z_tuple : PySem.W.nsIn K mainGlobals "tuple" = some none)
    (z_zip : PySem.W.nsIn K mainGlobals "zip" = some none)
    {f_WORDS : Addr} (a_WORDS : PySem.W.nsIn K mainGlobals "WORDS" = some (some (.ref f_WORDS))) (r_WORDS : ∀ β H, Rep K β H (.ref f_WORDS) c_WORDS)
    {f_GREATEST : Addr} {e_GREATEST : Array DictEntry} {y_GREATEST : Nat} (a_GREATEST : PySem.W.nsIn K mainGlobals "GREATEST" = some (some (.ref f_GREATEST))) (l_GREATEST : K.lookup f_GREATEST = some ⟨.type "dict", none, .dict e_GREATEST y_GREATEST, #[]⟩) (i_GREATEST : PySem.W.KeysLit w.params e_GREATEST.toList) (j_GREATEST : (f_GREATEST == sysModules) = false) (t_GREATEST : TabAt K e_GREATEST.toList t_GREATEST)
    {u_MOST_IN_CORE : Value} (a_MOST_IN_CORE : PySem.W.nsIn K mainGlobals "MOST_IN_CORE" = some (some u_MOST_IN_CORE)) (r_MOST_IN_CORE : RelV (.int 5) u_MOST_IN_CORE)
    {f_PairError : Addr} (a_PairError : PySem.W.nsIn K mainGlobals "PairError" = some (some (.ref f_PairError)))
    {f_BadCore : Addr} (a_BadCore : PySem.W.nsIn K mainGlobals "BadCore" = some (some (.ref f_BadCore))) (x_BadCore : PySem.W.excIn K f_BadCore [.type "ValueError", .type "Exception", .type "BaseException", .type "object"] "ValueError.__new__" = true) (k_BadCore : PySem.W.keepIn K (.ref f_BadCore) = true) (b_BadCore : PySem.W.subIn K (.ref f_BadCore) (.type "BaseException") = some true) (t_BadCore : PySem.W.typeIn K (.ref f_BadCore) = some (.type "type")) (u_BadCore : PySem.W.exmOne K (.ref f_BadCore) (.ref f_PairError) = some true)
    (ea_BadCore : PySem.W.findIn K (.ref f_BadCore) "__getattribute__" = some (some (.builtin "BaseException.__getattribute__"))) (eb_BadCore : PySem.W.findIn K (.ref f_BadCore) "__getattr__" = some none) (ec_BadCore : PySem.W.hasDictIn K f_BadCore = true) (ed_BadCore : PySem.W.findIn K (.ref f_BadCore) "__class__" = some (some (.builtin "object.__class__"))) (ee_BadCore : PySem.W.mroIn K f_BadCore (.type "object") = some true)
    {f_BadPlace : Addr} (a_BadPlace : PySem.W.nsIn K mainGlobals "BadPlace" = some (some (.ref f_BadPlace))) (x_BadPlace : PySem.W.excIn K f_BadPlace [.type "ValueError", .type "Exception", .type "BaseException", .type "object"] "ValueError.__new__" = true) (k_BadPlace : PySem.W.keepIn K (.ref f_BadPlace) = true) (b_BadPlace : PySem.W.subIn K (.ref f_BadPlace) (.type "BaseException") = some true) (t_BadPlace : PySem.W.typeIn K (.ref f_BadPlace) = some (.type "type")) (u_BadPlace : PySem.W.exmOne K (.ref f_BadPlace) (.ref f_PairError) = some true)
    (ea_BadPlace : PySem.W.findIn K (.ref f_BadPlace) "__getattribute__" = some (some (.builtin "BaseException.__getattribute__"))) (eb_BadPlace : PySem.W.findIn K (.ref f_BadPlace) "__getattr__" = some none) (ec_BadPlace : PySem.W.hasDictIn K f_BadPlace = true) (ed_BadPlace : PySem.W.findIn K (.ref f_BadPlace) "__class__" = some (some (.builtin "object.__class__"))) (ee_BadPlace : PySem.W.mroIn K f_BadPlace (.type "object") = some true)
    {f_BadDesign : Addr} (a_BadDesign : PySem.W.nsIn K mainGlobals "BadDesign" = some (some (.ref f_BadDesign))) (x_BadDesign : PySem.W.excIn K f_BadDesign [.type "ValueError", .type "Exception", .type "BaseException", .type "object"] "ValueError.__new__" = true) (k_BadDesign : PySem.W.keepIn K (.ref f_BadDesign) = true) (b_BadDesign : PySem.W.subIn K (.ref f_BadDesign) (.type "BaseException") = some true) (t_BadDesign : PySem.W.typeIn K (.ref f_BadDesign) = some (.type "type")) (u_BadDesign : PySem.W.exmOne K (.ref f_BadDesign) (.ref f_PairError) = some true)
    (ea_BadDesign : PySem.W.findIn K (.ref f_BadDesign) "__getattribute__" = some (some (.builtin "BaseException.__getattribute__"))) (eb_BadDesign : PySem.W.findIn K (.ref f_BadDesign) "__getattr__" = some none) (ec_BadDesign : PySem.W.hasDictIn K f_BadDesign = true) (ed_BadDesign : PySem.W.findIn K (.ref f_BadDesign) "__class__" = some (some (.builtin "object.__class__"))) (ee_BadDesign : PySem.W.mroIn K f_BadDesign (.type "object") = some true)
    (eg : PySem.W.specialIn K (.builtin "object.__class__") "__get__" = some (some (.builtin "getset_descriptor.__get__"))) (eh : PySem.W.takesIn K (.builtin "object.__class__") = some true)
    (i_core_core : PySem.W.kitOne K (.ref f_BadCore) (.ref f_BadCore) = some true)
    (i_place_core : PySem.W.kitOne K (.ref f_BadPlace) (.ref f_BadCore) = some false)
    (i_place_place : PySem.W.kitOne K (.ref f_BadPlace) (.ref f_BadPlace) = some true)
    (i_design_core : PySem.W.kitOne K (.ref f_BadDesign) (.ref f_BadCore) = some false)
    (i_design_place : PySem.W.kitOne K (.ref f_BadDesign) (.ref f_BadPlace) = some false)
    (i_design_design : PySem.W.kitOne K (.ref f_BadDesign) (.ref f_BadDesign) = some true)
    {cc : Addr} {ce : Value} {cdd : Option Addr} {cvs : Array Value} {csl : Array (Option Value)} (y_cd : cd_law = .ref cc) (y_lk : K.lookup cc = some ⟨ce, cdd, .fields cvs, csl⟩) (y_11 : cvs[11]? = some (.ref (tabAddr K))) (y_no : K.lookup (tabAddr K) = none) (y_hd : PySem.W.codeHdIn K cc (tabAddr K) = true) (own : LamX.OwnTab K fa h) :
    LamX.LawAtS l w K (L2.CX l.prog w) 9 63 "script" mg fa h := by
  have e : f_law = fa := by
    have e := hfa.symm.trans (PySem.W.mg_of X G a_law)
    cases e
    rfl
  subst e
  subst y_cd
  let T : Txt K w mg := {
    a__law_alike := f__law_alike, d__law_alike := _, F__law_alike := fun_mk (st := s__law_alike) l__law_alike w__law_alike k__law_alike, b__law_alike := (fun_mk (st := s__law_alike) l__law_alike w__law_alike k__law_alike).binds (ps := ["found", "due"]) fun _ _ _ _ _ _ us hl => match us, hl with | [_, _], _ => rfl, g__law_alike := PySem.W.mg_of X G a__law_alike,
    a__law_taken := f__law_taken, d__law_taken := _, F__law_taken := fun_mk (st := s__law_taken) l__law_taken w__law_taken k__law_taken, b__law_taken := (fun_mk (st := s__law_taken) l__law_taken w__law_taken k__law_taken).binds (ps := ["row", "many"]) fun _ _ _ _ _ _ us hl => match us, hl with | [_, _], _ => rfl, g__law_taken := PySem.W.mg_of X G a__law_taken,
    a__law_design := f__law_design, d__law_design := _, F__law_design := fun_mk (st := s__law_design) l__law_design w__law_design k__law_design, b__law_design := (fun_mk (st := s__law_design) l__law_design w__law_design k__law_design).binds (ps := ["row"]) fun _ _ _ _ _ _ us hl => match us, hl with | [_], _ => rfl, g__law_design := PySem.W.mg_of X G a__law_design,
    a__law_pick := f__law_pick, d__law_pick := _, F__law_pick := fun_mk (st := s__law_pick) l__law_pick w__law_pick k__law_pick, b__law_pick := (fun_mk (st := s__law_pick) l__law_pick w__law_pick k__law_pick).binds (ps := ["row", "kinds"]) fun _ _ _ _ _ _ us hl => match us, hl with | [_, _], _ => rfl, g__law_pick := PySem.W.mg_of X G a__law_pick,
    a__law_instruction := f__law_instruction, d__law_instruction := _, F__law_instruction := fun_mk (st := s__law_instruction) l__law_instruction w__law_instruction k__law_instruction, b__law_instruction := (fun_mk (st := s__law_instruction) l__law_instruction w__law_instruction k__law_instruction).binds (ps := ["row"]) fun _ _ _ _ _ _ us hl => match us, hl with | [_], _ => rfl, g__law_instruction := PySem.W.mg_of X G a__law_instruction,
    a__law_cell := f__law_cell, d__law_cell := _, F__law_cell := fun_mk (st := s__law_cell) l__law_cell w__law_cell k__law_cell, b__law_cell := (fun_mk (st := s__law_cell) l__law_cell w__law_cell k__law_cell).binds (ps := ["one"]) fun _ _ _ _ _ _ us hl => match us, hl with | [_], _ => rfl, g__law_cell := PySem.W.mg_of X G a__law_cell,
    a__law_last := f__law_last, d__law_last := _, F__law_last := fun_mk (st := s__law_last) l__law_last w__law_last k__law_last, b__law_last := (fun_mk (st := s__law_last) l__law_last w__law_last k__law_last).binds (ps := ["core", "place", "kinds", "spot", "name"]) fun _ _ _ _ _ _ us hl => match us, hl with | [_, _, _, _, _], _ => rfl, g__law_last := PySem.W.mg_of X G a__law_last,
    a__law_letter := f__law_letter, d__law_letter := _, F__law_letter := fun_mk (st := s__law_letter) l__law_letter w__law_letter k__law_letter, b__law_letter := (fun_mk (st := s__law_letter) l__law_letter w__law_letter k__law_letter).binds (ps := ["one"]) fun _ _ _ _ _ _ us hl => match us, hl with | [_], _ => rfl, g__law_letter := PySem.W.mg_of X G a__law_letter,
    a__law_must := f__law_must, d__law_must := _, F__law_must := fun_mk (st := s__law_must) l__law_must w__law_must k__law_must, b__law_must := (fun_mk (st := s__law_must) l__law_must w__law_must k__law_must).binds (ps := ["design", "core", "i", "j"]) fun _ _ _ _ _ _ us hl => match us, hl with | [_, _, _, _], _ => rfl, g__law_must := PySem.W.mg_of X G a__law_must,
    a_is_number := f_is_number, d_is_number := _, F_is_number := fun_mk (st := s_is_number) l_is_number w_is_number k_is_number, b_is_number := (fun_mk (st := s_is_number) l_is_number w_is_number k_is_number).binds (ps := ["value", "greatest"]) fun _ _ _ _ _ _ us hl => match us, hl with | [_, _], _ => rfl, g_is_number := PySem.W.mg_of X G a_is_number,
    a_is_instruction := f_is_instruction, d_is_instruction := _, F_is_instruction := fun_mk (st := s_is_instruction) l_is_instruction w_is_instruction k_is_instruction, b_is_instruction := (fun_mk (st := s_is_instruction) l_is_instruction w_is_instruction k_is_instruction).binds (ps := ["value"]) fun _ _ _ _ _ _ us hl => match us, hl with | [_], _ => rfl, g_is_instruction := PySem.W.mg_of X G a_is_instruction,
    a_is_core := f_is_core, d_is_core := _, F_is_core := fun_mk (st := s_is_core) l_is_core w_is_core k_is_core, b_is_core := (fun_mk (st := s_is_core) l_is_core w_is_core k_is_core).binds (ps := ["value"]) fun _ _ _ _ _ _ us hl => match us, hl with | [_], _ => rfl, g_is_core := PySem.W.mg_of X G a_is_core,
    a_check_core := f_check_core, d_check_core := _, F_check_core := fun_mk (st := s_check_core) l_check_core w_check_core k_check_core, b_check_core := (fun_mk (st := s_check_core) l_check_core w_check_core k_check_core).binds (ps := ["value"]) fun _ _ _ _ _ _ us hl => match us, hl with | [_], _ => rfl, g_check_core := PySem.W.mg_of X G a_check_core,
    a_is_design := f_is_design, d_is_design := _, F_is_design := fun_mk (st := s_is_design) l_is_design w_is_design k_is_design, b_is_design := (fun_mk (st := s_is_design) l_is_design w_is_design k_is_design).binds (ps := ["value"]) fun _ _ _ _ _ _ us hl => match us, hl with | [_], _ => rfl, g_is_design := PySem.W.mg_of X G a_is_design,
    a_check_design := f_check_design, d_check_design := _, F_check_design := fun_mk (st := s_check_design) l_check_design w_check_design k_check_design, b_check_design := (fun_mk (st := s_check_design) l_check_design w_check_design k_check_design).binds (ps := ["value"]) fun _ _ _ _ _ _ us hl => match us, hl with | [_], _ => rfl, g_check_design := PySem.W.mg_of X G a_check_design,
    a_check_places := f_check_places, d_check_places := _, F_check_places := fun_mk (st := s_check_places) l_check_places w_check_places k_check_places, b_check_places := (fun_mk (st := s_check_places) l_check_places w_check_places k_check_places).binds (ps := ["core", "first", "second"]) fun _ _ _ _ _ _ us hl => match us, hl with | [_, _, _], _ => rfl, g_check_places := PySem.W.mg_of X G a_check_places,
    a_is_reading := f_is_reading, d_is_reading := _, F_is_reading := fun_mk (st := s_is_reading) l_is_reading w_is_reading k_is_reading, b_is_reading := (fun_mk (st := s_is_reading) l_is_reading w_is_reading k_is_reading).binds (ps := ["instruction"]) fun _ _ _ _ _ _ us hl => match us, hl with | [_], _ => rfl, g_is_reading := PySem.W.mg_of X G a_is_reading,
    a_is_writing := f_is_writing, d_is_writing := _, F_is_writing := fun_mk (st := s_is_writing) l_is_writing w_is_writing k_is_writing, b_is_writing := (fun_mk (st := s_is_writing) l_is_writing w_is_writing k_is_writing).binds (ps := ["instruction"]) fun _ _ _ _ _ _ us hl => match us, hl with | [_], _ => rfl, g_is_writing := PySem.W.mg_of X G a_is_writing,
    a_cell_of := f_cell_of, d_cell_of := _, F_cell_of := fun_mk (st := s_cell_of) l_cell_of w_cell_of k_cell_of, b_cell_of := (fun_mk (st := s_cell_of) l_cell_of w_cell_of k_cell_of).binds (ps := ["instruction"]) fun _ _ _ _ _ _ us hl => match us, hl with | [_], _ => rfl, g_cell_of := PySem.W.mg_of X G a_cell_of,
    a_is_kept_behind_guard := f_is_kept_behind_guard, d_is_kept_behind_guard := _, F_is_kept_behind_guard := fun_mk (st := s_is_kept_behind_guard) l_is_kept_behind_guard w_is_kept_behind_guard k_is_kept_behind_guard, b_is_kept_behind_guard := (fun_mk (st := s_is_kept_behind_guard) l_is_kept_behind_guard w_is_kept_behind_guard k_is_kept_behind_guard).binds (ps := ["design", "later"]) fun _ _ _ _ _ _ us hl => match us, hl with | [_, _], _ => rfl, g_is_kept_behind_guard := PySem.W.mg_of X G a_is_kept_behind_guard,
    a_is_kept_on_cell := f_is_kept_on_cell, d_is_kept_on_cell := _, F_is_kept_on_cell := fun_mk (st := s_is_kept_on_cell) l_is_kept_on_cell w_is_kept_on_cell k_is_kept_on_cell, b_is_kept_on_cell := (fun_mk (st := s_is_kept_on_cell) l_is_kept_on_cell w_is_kept_on_cell k_is_kept_on_cell).binds (ps := ["design", "earlier", "later"]) fun _ _ _ _ _ _ us hl => match us, hl with | [_, _, _], _ => rfl, g_is_kept_on_cell := PySem.W.mg_of X G a_is_kept_on_cell,
    a_kind_of := f_kind_of, d_kind_of := _, F_kind_of := fun_mk (st := s_kind_of) l_kind_of w_kind_of k_kind_of, b_kind_of := (fun_mk (st := s_kind_of) l_kind_of w_kind_of k_kind_of).binds (ps := ["instruction"]) fun _ _ _ _ _ _ us hl => match us, hl with | [_], _ => rfl, g_kind_of := PySem.W.mg_of X G a_kind_of,
    a_last_read := f_last_read, d_last_read := _, F_last_read := fun_mk (st := s_last_read) l_last_read w_last_read k_last_read, b_last_read := (fun_mk (st := s_last_read) l_last_read w_last_read k_last_read).binds (ps := ["core", "number", "place"]) fun _ _ _ _ _ _ us hl => match us, hl with | [_, _, _], _ => rfl, g_last_read := PySem.W.mg_of X G a_last_read,
    a_used_by := f_used_by, d_used_by := _, F_used_by := fun_mk (st := s_used_by) l_used_by w_used_by k_used_by, b_used_by := (fun_mk (st := s_used_by) l_used_by w_used_by k_used_by).binds (ps := ["instruction"]) fun _ _ _ _ _ _ us hl => match us, hl with | [_], _ => rfl, g_used_by := PySem.W.mg_of X G a_used_by,
    a_is_kept := f_is_kept, d_is_kept := _, F_is_kept := fun_mk (st := s_is_kept) l_is_kept w_is_kept k_is_kept, b_is_kept := (fun_mk (st := s_is_kept) l_is_kept w_is_kept k_is_kept).binds (ps := ["design", "core", "first", "second"]) fun _ _ _ _ _ _ us hl => match us, hl with | [_, _, _, _], _ => rfl, g_is_kept := PySem.W.mg_of X G a_is_kept,
    a_last_writing := f_last_writing, d_last_writing := _, F_last_writing := fun_mk (st := s_last_writing) l_last_writing w_last_writing k_last_writing, b_last_writing := (fun_mk (st := s_last_writing) l_last_writing w_last_writing k_last_writing).binds (ps := ["core", "cell", "place"]) fun _ _ _ _ _ _ us hl => match us, hl with | [_, _, _], _ => rfl, g_last_writing := PySem.W.mg_of X G a_last_writing,
    a_waits_for_copied := f_waits_for_copied, d_waits_for_copied := _, F_waits_for_copied := fun_mk (st := s_waits_for_copied) l_waits_for_copied w_waits_for_copied k_waits_for_copied, b_waits_for_copied := (fun_mk (st := s_waits_for_copied) l_waits_for_copied w_waits_for_copied k_waits_for_copied).binds (ps := ["design", "core", "first", "second"]) fun _ _ _ _ _ _ us hl => match us, hl with | [_, _, _, _], _ => rfl, g_waits_for_copied := PySem.W.mg_of X G a_waits_for_copied,
    a_must_wait := f_must_wait, d_must_wait := _, F_must_wait := fun_mk (st := s_must_wait) l_must_wait w_must_wait k_must_wait, b_must_wait := (fun_mk (st := s_must_wait) l_must_wait w_must_wait k_must_wait).binds (ps := ["design", "core", "first", "second"]) fun _ _ _ _ _ _ us hl => match us, hl with | [_, _, _, _], _ => rfl, g_must_wait := PySem.W.mg_of X G a_must_wait,
    a_must_be_done := f_must_be_done, d_must_be_done := _, F_must_be_done := fun_mk (st := s_must_be_done) l_must_be_done w_must_be_done k_must_be_done, b_must_be_done := (fun_mk (st := s_must_be_done) l_must_be_done w_must_be_done k_must_be_done).binds (ps := ["design", "core", "first", "second"]) fun _ _ _ _ _ _ us hl => match us, hl with | [_, _, _, _], _ => rfl, g_must_be_done := PySem.W.mg_of X G a_must_be_done,
    a__law_wrong := f__law_wrong, d__law_wrong := _, F__law_wrong := fun_mk (st := s__law_wrong) l__law_wrong w__law_wrong k__law_wrong, b__law_wrong := (fun_mk (st := s__law_wrong) l__law_wrong w__law_wrong k__law_wrong).binds (ps := ["work"]) fun _ _ _ _ _ _ us hl => match us, hl with | [_], _ => rfl, g__law_wrong := PySem.W.mg_of X G a__law_wrong,
    a_law := f_law, d_law := _, F_law := fun_mk (st := s_law) l_law w_law k_law, b_law := (fun_mk (st := s_law) l_law w_law k_law).binds (ps := ["script"]) fun _ _ _ _ _ _ us hl => match us, hl with | [_], _ => rfl, g_law := PySem.W.mg_of X G a_law,
    n_all := PySem.W.mg_none_of X G z_all,
    n_bool := PySem.W.mg_none_of X G z_bool,
    n_int := PySem.W.mg_none_of X G z_int,
    n_isinstance := PySem.W.mg_none_of X G z_isinstance,
    n_len := PySem.W.mg_none_of X G z_len,
    n_list := PySem.W.mg_none_of X G z_list,
    n_range := PySem.W.mg_none_of X G z_range,
    n_str := PySem.W.mg_none_of X G z_str,
    n_tuple := PySem.W.mg_none_of X G z_tuple,
    n_zip := PySem.W.mg_none_of X G z_zip,
    a_WORDS := f_WORDS, c_WORDS := ⟨PySem.W.mg_of X G a_WORDS, r_WORDS⟩,
    u_MOST_IN_CORE := u_MOST_IN_CORE, c_MOST_IN_CORE := ⟨PySem.W.mg_of X G a_MOST_IN_CORE, r_MOST_IN_CORE⟩,
    a_PairError := f_PairError, g_PairError := PySem.W.mg_of X G a_PairError,
    a_BadCore := f_BadCore, x_BadCore := ⟨PySem.W.mg_of X G a_BadCore, x_BadCore, k_BadCore, b_BadCore, t_BadCore, ⟨ea_BadCore, eb_BadCore, b_BadCore, ec_BadCore, ed_BadCore, eg, eh, ee_BadCore⟩, u_BadCore⟩,
    a_BadPlace := f_BadPlace, x_BadPlace := ⟨PySem.W.mg_of X G a_BadPlace, x_BadPlace, k_BadPlace, b_BadPlace, t_BadPlace, ⟨ea_BadPlace, eb_BadPlace, b_BadPlace, ec_BadPlace, ed_BadPlace, eg, eh, ee_BadPlace⟩, u_BadPlace⟩,
    a_BadDesign := f_BadDesign, x_BadDesign := ⟨PySem.W.mg_of X G a_BadDesign, x_BadDesign, k_BadDesign, b_BadDesign, t_BadDesign, ⟨ea_BadDesign, eb_BadDesign, b_BadDesign, ec_BadDesign, ed_BadDesign, eg, eh, ee_BadDesign⟩, u_BadDesign⟩,
    i_core_core := i_core_core,
    i_place_core := i_place_core,
    i_place_place := i_place_place,
    i_design_core := i_design_core,
    i_design_place := i_design_place,
    i_design_design := i_design_design,
    a_GREATEST := f_GREATEST, e_GREATEST := e_GREATEST, z_GREATEST := y_GREATEST, c_GREATEST := PySem.W.mg_of X G a_GREATEST, k_GREATEST := ⟨l_GREATEST, i_GREATEST, j_GREATEST⟩, t_GREATEST := ktab_of l_GREATEST t_GREATEST }
  have hT : h.get? (tabAddr K) = some { cls := .none, data := .fields #[] } := own cc (tabAddr K) _ _ _ _ _ _ l_law rfl rfl y_lk y_11
  refine ⟨T.d_law, [(cc, tabAddr K)], spL K m_law, fun p hp => ?_, fun p hp => ?_, fun p hp => ?_, fun s v => .of_eq rfl, fun H a ns hl _ hH hS => spL_ofT law_go hl (hH (cc, tabAddr K) (List.mem_singleton.mpr rfl)) hS, fun base _ _ hB => ?_⟩
  · rw [List.mem_singleton.mp hp]; exact hT
  · rw [List.mem_singleton.mp hp]; exact y_no
  · rw [List.mem_singleton.mp hp]; exact PySem.W.codeHd_of_K X y_hd
  · exact FnD.law (ok_law (base := base) T ⟨cc, ⟨_, _, _, _, _, _, _, _, rfl, l_law, w_law⟩, hB (cc, tabAddr K) (List.mem_singleton.mpr rfl)⟩)
end K04
open PySem PySem.W PyProof.Rows
set_option maxHeartbeats 0 in
theorem PySem.Challenge.cw_pairskept_k04_whole_pairs_holds : PySem.Challenge.rw_pairskept_k04_whole_pairs.Holds := by
  w_on; o_law; k_head; (case hw => w_witness2)
  k_fill
  refine LamX.walk_ofOwn (l := PySem.Challenge.rw_pairskept_k04_whole_pairs) (n := 63) (k := 9) (x := "script") (CX := fun w => L2.CX PySem.Challenge.rw_pairskept_k04_whole_pairs.prog w) rfl (by decide) rfl ⟨rfl, by decide, by decide⟩ (by first | rfl | decide +kernel) (fun w h Y => PySem.W.km_in_of Y) ?F (fun w H s e s' h => DL.cx_no h)
  case F =>
    intro w mg fa h Y KX G hmg own
    refine' K04.all_mk KX G hmg ?a__law_alike ?l__law_alike ?w__law_alike ?k__law_alike ?a__law_taken ?l__law_taken ?w__law_taken ?k__law_taken ?a__law_design ?l__law_design ?w__law_design ?k__law_design ?a__law_pick ?l__law_pick ?w__law_pick ?k__law_pick ?a__law_instruction ?l__law_instruction ?w__law_instruction ?k__law_instruction ?a__law_cell ?l__law_cell ?w__law_cell ?k__law_cell ?a__law_last ?l__law_last ?w__law_last ?k__law_last ?a__law_letter ?l__law_letter ?w__law_letter ?k__law_letter ?a__law_must ?l__law_must ?w__law_must ?k__law_must ?a_is_number ?l_is_number ?w_is_number ?k_is_number ?a_is_instruction ?l_is_instruction ?w_is_instruction ?k_is_instruction ?a_is_core ?l_is_core ?w_is_core ?k_is_core ?a_check_core ?l_check_core ?w_check_core ?k_check_core ?a_is_design ?l_is_design ?w_is_design ?k_is_design ?a_check_design ?l_check_design ?w_check_design ?k_check_design ?a_check_places ?l_check_places ?w_check_places ?k_check_places ?a_is_reading ?l_is_reading ?w_is_reading ?k_is_reading ?a_is_writing ?l_is_writing ?w_is_writing ?k_is_writing ?a_cell_of ?l_cell_of ?w_cell_of ?k_cell_of ?a_is_kept_behind_guard ?l_is_kept_behind_guard ?w_is_kept_behind_guard ?k_is_kept_behind_guard ?a_is_kept_on_cell ?l_is_kept_on_cell ?w_is_kept_on_cell ?k_is_kept_on_cell ?a_kind_of ?l_kind_of ?w_kind_of ?k_kind_of ?a_last_read ?l_last_read ?w_last_read ?k_last_read ?a_used_by ?l_used_by ?w_used_by ?k_used_by ?a_is_kept ?l_is_kept ?w_is_kept ?k_is_kept ?a_last_writing ?l_last_writing ?w_last_writing ?k_last_writing ?a_waits_for_copied ?l_waits_for_copied ?w_waits_for_copied ?k_waits_for_copied ?a_must_wait ?l_must_wait ?w_must_wait ?k_must_wait ?a_must_be_done ?l_must_be_done ?w_must_be_done ?k_must_be_done ?a__law_wrong ?l__law_wrong ?w__law_wrong ?k__law_wrong ?a_law ?l_law ?w_law ?k_law ?z_all ?z_bool ?z_int ?z_isinstance ?z_len ?z_list ?z_range ?z_str ?z_tuple ?z_zip ?a_WORDS ?r_WORDS ?a_GREATEST ?l_GREATEST ?i_GREATEST ?j_GREATEST ?t_GREATEST ?a_MOST_IN_CORE ?r_MOST_IN_CORE ?a_PairError ?a_BadCore ?x_BadCore ?k_BadCore ?b_BadCore ?t_BadCore ?u_BadCore ?ea_BadCore ?eb_BadCore ?ec_BadCore ?ed_BadCore ?ee_BadCore ?a_BadPlace ?x_BadPlace ?k_BadPlace ?b_BadPlace ?t_BadPlace ?u_BadPlace ?ea_BadPlace ?eb_BadPlace ?ec_BadPlace ?ed_BadPlace ?ee_BadPlace ?a_BadDesign ?x_BadDesign ?k_BadDesign ?b_BadDesign ?t_BadDesign ?u_BadDesign ?ea_BadDesign ?eb_BadDesign ?ec_BadDesign ?ed_BadDesign ?ee_BadDesign ?eg ?eh ?i_core_core ?i_place_core ?i_place_place ?i_design_core ?i_design_place ?i_design_design ?y_cd ?y_lk ?y_11 ?y_no ?y_hd own
    (case a__law_alike => k_is)
    (case l__law_alike => k_is)
    (case w__law_alike => k_is)
    (case k__law_alike => k_is)
    (case a__law_taken => k_is)
    (case l__law_taken => k_is)
    (case w__law_taken => k_is)
    (case k__law_taken => k_is)
    (case a__law_design => k_is)
    (case l__law_design => k_is)
    (case w__law_design => k_is)
    (case k__law_design => k_is)
    (case a__law_pick => k_is)
    (case l__law_pick => k_is)
    (case w__law_pick => k_is)
    (case k__law_pick => k_is)
    (case a__law_instruction => k_is)
    (case l__law_instruction => k_is)
    (case w__law_instruction => k_is)
    (case k__law_instruction => k_is)
    (case a__law_cell => k_is)
    (case l__law_cell => k_is)
    (case w__law_cell => k_is)
    (case k__law_cell => k_is)
    (case a__law_last => k_is)
    (case l__law_last => k_is)
    (case w__law_last => k_is)
    (case k__law_last => k_is)
    (case a__law_letter => k_is)
    (case l__law_letter => k_is)
    (case w__law_letter => k_is)
    (case k__law_letter => k_is)
    (case a__law_must => k_is)
    (case l__law_must => k_is)
    (case w__law_must => k_is)
    (case k__law_must => k_is)
    (case a_is_number => k_is)
    (case l_is_number => k_is)
    (case w_is_number => k_is)
    (case k_is_number => k_is)
    (case a_is_instruction => k_is)
    (case l_is_instruction => k_is)
    (case w_is_instruction => k_is)
    (case k_is_instruction => k_is)
    (case a_is_core => k_is)
    (case l_is_core => k_is)
    (case w_is_core => k_is)
    (case k_is_core => k_is)
    (case a_check_core => k_is)
    (case l_check_core => k_is)
    (case w_check_core => k_is)
    (case k_check_core => k_is)
    (case a_is_design => k_is)
    (case l_is_design => k_is)
    (case w_is_design => k_is)
    (case k_is_design => k_is)
    (case a_check_design => k_is)
    (case l_check_design => k_is)
    (case w_check_design => k_is)
    (case k_check_design => k_is)
    (case a_check_places => k_is)
    (case l_check_places => k_is)
    (case w_check_places => k_is)
    (case k_check_places => k_is)
    (case a_is_reading => k_is)
    (case l_is_reading => k_is)
    (case w_is_reading => k_is)
    (case k_is_reading => k_is)
    (case a_is_writing => k_is)
    (case l_is_writing => k_is)
    (case w_is_writing => k_is)
    (case k_is_writing => k_is)
    (case a_cell_of => k_is)
    (case l_cell_of => k_is)
    (case w_cell_of => k_is)
    (case k_cell_of => k_is)
    (case a_is_kept_behind_guard => k_is)
    (case l_is_kept_behind_guard => k_is)
    (case w_is_kept_behind_guard => k_is)
    (case k_is_kept_behind_guard => k_is)
    (case a_is_kept_on_cell => k_is)
    (case l_is_kept_on_cell => k_is)
    (case w_is_kept_on_cell => k_is)
    (case k_is_kept_on_cell => k_is)
    (case a_kind_of => k_is)
    (case l_kind_of => k_is)
    (case w_kind_of => k_is)
    (case k_kind_of => k_is)
    (case a_last_read => k_is)
    (case l_last_read => k_is)
    (case w_last_read => k_is)
    (case k_last_read => k_is)
    (case a_used_by => k_is)
    (case l_used_by => k_is)
    (case w_used_by => k_is)
    (case k_used_by => k_is)
    (case a_is_kept => k_is)
    (case l_is_kept => k_is)
    (case w_is_kept => k_is)
    (case k_is_kept => k_is)
    (case a_last_writing => k_is)
    (case l_last_writing => k_is)
    (case w_last_writing => k_is)
    (case k_last_writing => k_is)
    (case a_waits_for_copied => k_is)
    (case l_waits_for_copied => k_is)
    (case w_waits_for_copied => k_is)
    (case k_waits_for_copied => k_is)
    (case a_must_wait => k_is)
    (case l_must_wait => k_is)
    (case w_must_wait => k_is)
    (case k_must_wait => k_is)
    (case a_must_be_done => k_is)
    (case l_must_be_done => k_is)
    (case w_must_be_done => k_is)
    (case k_must_be_done => k_is)
    (case a__law_wrong => k_is)
    (case l__law_wrong => k_is)
    (case w__law_wrong => k_is)
    (case k__law_wrong => k_is)
    (case a_law => k_is)
    (case l_law => k_is)
    (case w_law => k_is)
    (case k_law => k_is)
    (case z_all => k_is)
    (case z_bool => k_is)
    (case z_int => k_is)
    (case z_isinstance => k_is)
    (case z_len => k_is)
    (case z_list => k_is)
    (case z_range => k_is)
    (case z_str => k_is)
    (case z_tuple => k_is)
    (case z_zip => k_is)
    (case a_WORDS => k_is)
    (case r_WORDS => exact (DL.rep_ktup (xs := [.str "gr", .str "gw", .str "own", .str "rr", .str "rw", .str "ss", .str "wr", .str "ww"]) (by k_is) (.cons ⟨_, rfl⟩ (.cons ⟨_, rfl⟩ (.cons ⟨_, rfl⟩ (.cons ⟨_, rfl⟩ (.cons ⟨_, rfl⟩ (.cons ⟨_, rfl⟩ (.cons ⟨_, rfl⟩ (.cons ⟨_, rfl⟩ (.nil))))))))) (fun β H => .cons (.str _) (.cons (.str _) (.cons (.str _) (.cons (.str _) (.cons (.str _) (.cons (.str _) (.cons (.str _) (.cons (.str _) (.nil))))))))) (by decide)))
    (case a_GREATEST => k_is)
    (case l_GREATEST => k_is)
    (case i_GREATEST => exact ⟨⟨_, _, rfl, rfl⟩, ⟨_, _, rfl, rfl⟩, ⟨_, _, rfl, rfl⟩, ⟨_, _, rfl, rfl⟩, ⟨_, _, rfl, rfl⟩, trivial⟩)
    (case j_GREATEST => rfl)
    (case t_GREATEST => exact .cons (v := .ref _) rfl (fun β H => (DL.rep_ktup (xs := [.int 1, .int 2]) (by k_is) (.cons ⟨_, rfl⟩ (.cons ⟨_, rfl⟩ (.nil))) (fun β H => .cons (.int _) (.cons (.int _) (.nil))) (by decide)) β H) (.cons (v := .ref _) rfl (fun β H => (DL.rep_ktup (xs := [.int 2, .int 9]) (by k_is) (.cons ⟨_, rfl⟩ (.cons ⟨_, rfl⟩ (.nil))) (fun β H => .cons (.int _) (.cons (.int _) (.nil))) (by decide)) β H) (.cons (v := .ref _) rfl (fun β H => (DL.rep_ktup (xs := [.int 2, .int 1]) (by k_is) (.cons ⟨_, rfl⟩ (.cons ⟨_, rfl⟩ (.nil))) (fun β H => .cons (.int _) (.cons (.int _) (.nil))) (by decide)) β H) (.cons (v := .ref _) rfl (fun β H => (DL.rep_ktup (xs := []) (by k_is) (.nil) (fun β H => .nil) (by decide)) β H) (.cons (v := .ref _) rfl (fun β H => (DL.rep_ktup (xs := [.int 1, .int 9]) (by k_is) (.cons ⟨_, rfl⟩ (.cons ⟨_, rfl⟩ (.nil))) (fun β H => .cons (.int _) (.cons (.int _) (.nil))) (by decide)) β H) (.nil))))))
    (case a_MOST_IN_CORE => k_is)
    (case r_MOST_IN_CORE => exact ⟨_, rfl⟩)
    (case a_PairError => k_is)
    (case a_BadCore => k_is)
    (case x_BadCore => first | k_exc | kernel_rfl)
    (case k_BadCore => k_is)
    (case b_BadCore => k_is)
    (case t_BadCore => k_is)
    (case u_BadCore => kernel_rfl)
    (case ea_BadCore => k_is)
    (case eb_BadCore => k_is)
    (case ec_BadCore => k_is)
    (case ed_BadCore => k_is)
    (case ee_BadCore => k_is)
    (case a_BadPlace => k_is)
    (case x_BadPlace => first | k_exc | kernel_rfl)
    (case k_BadPlace => k_is)
    (case b_BadPlace => k_is)
    (case t_BadPlace => k_is)
    (case u_BadPlace => kernel_rfl)
    (case ea_BadPlace => k_is)
    (case eb_BadPlace => k_is)
    (case ec_BadPlace => k_is)
    (case ed_BadPlace => k_is)
    (case ee_BadPlace => k_is)
    (case a_BadDesign => k_is)
    (case x_BadDesign => first | k_exc | kernel_rfl)
    (case k_BadDesign => k_is)
    (case b_BadDesign => k_is)
    (case t_BadDesign => k_is)
    (case u_BadDesign => kernel_rfl)
    (case ea_BadDesign => k_is)
    (case eb_BadDesign => k_is)
    (case ec_BadDesign => k_is)
    (case ed_BadDesign => k_is)
    (case ee_BadDesign => k_is)
    (case eg => k_is)
    (case eh => k_is)
    (case i_core_core => kernel_rfl)
    (case i_place_core => kernel_rfl)
    (case i_place_place => kernel_rfl)
    (case i_design_core => kernel_rfl)
    (case i_design_place => kernel_rfl)
    (case i_design_design => kernel_rfl)
    (case y_cd => rfl)
    (case y_lk => k_is)
    (case y_11 => kernel_rfl)
    (case y_no => kernel_rfl)
    (case y_hd => kernel_rfl)
