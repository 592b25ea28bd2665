import PyProof.Rows.All
import Wide.All
import OpenK.AllK
import Wide.FinOn
import HandS.ForMost
import HandS.Flow
import HandS.IsInst
import HandS.TupAny
import HandS.Deep
import HandS.Conv
import HandS.Wide
import HandS.Strs
import HandS.Exc
import HandS.ExcOwn
import HandS.WordsExc
import HandS.TryOnly
import HandS.Lambda
import KE.KeyNested
import KE.KDictKeyed
import KE.KDictDisplayH
import KE.KDictWalk
import KE.GoesDict
import HandS.Style
import HandS.Zip
import HandS.More
import HandS.Set
import HandS.Ends
import HandS.ExcIs
import HandS.EndOwn
import KE.KNestM
import HandS.TupMul
import HandS.RaiseMore
import HandS.StrMore
import HandS.FStr
import KE.GoesEnum
import HandS.SortInts
import PyProof.ZipIter
import PySem.Challenge.RW_pairskept_k03_whole_rows
set_option Elab.async false
set_option linter.all false
set_option maxRecDepth 100000
set_option maxHeartbeats 2000000
/-! # Data: what the values are worth, apart from where they lie -/
namespace DL
open PySem PySem.Spec L2
open PyProof.Rows hiding St

/-- data: lists (lst) that are never written again; ro: a list that is only read (the script, a constant); ref: the n-th of the things that are written -/
inductive D where
  | non | bl (b : Bool) | int (i : Int) | str (x : Str) | tup (l : List D) | lst (l : List D) | ro (l : List D) | ref (n : Nat) | raw (v : V)
  /-- the lambda of the def d, with what it captured -/
  | clo (d : Str) (l : List D)
/-- a thing that is written -/
inductive SO where
  | lst (l : List D)
  | dK (l : List (Key × D))
  /-- the table of the code objects of the def d -/
  | tab (d q : Str)
  /-- a dict whose keys are tuples -/
  | dN (l : List (D × D))
  /-- an instance of a class of the text -/
  | ins (c : Str) (l : List (Str × D))
  /-- a dict that a loop walks -/
  | lock
abbrev Sto := List SO
structure Exn where
  cls : Str
  fld : Option (Str × D)
inductive Out (α : Type) where
  | ok (a : α) (st : Sto)
  | exn (x : Exn) (st : Sto)
  | bad
def Out.bind {α β : Type} (o : Out α) (k : α → Sto → Out β) : Out β := match o with
  | .ok a st => k a st
  | .exn x st => .exn x st
  | .bad => .bad
@[simp] theorem Out.bind_ok {α β : Type} (a : α) (st : Sto) (k : α → Sto → Out β) : (Out.ok a st).bind k = k a st := rfl
@[simp] theorem Out.bind_exn {α β : Type} (x : Exn) (st : Sto) (k : α → Sto → Out β) : (Out.exn x st).bind k = .exn x st := rfl
@[simp] theorem Out.bind_bad {α β : Type} (k : α → Sto → Out β) : (Out.bad : Out α).bind k = .bad := rfl
def Out.sat {α : Type} (o : Out α) (P : α → Sto → Prop) (E : Exn → Sto → Prop) : Prop := match o with
  | .ok a st => P a st
  | .exn x st => E x st
  | .bad => False
theorem Out.sat_bind {α β : Type} {o : Out α} {k : α → Sto → Out β} {P : β → Sto → Prop} {E : Exn → Sto → Prop} (h : (o.bind k).sat P E) : o.sat (fun a st => (k a st).sat P E) E := by
  cases o <;> exact h
theorem Out.sat.mono {α : Type} {o : Out α} {P P' : α → Sto → Prop} {E E' : Exn → Sto → Prop} (h : o.sat P E) (hP : ∀ a st, P a st → P' a st) (hE : ∀ x st, E x st → E' x st) : o.sat P' E' := by
  cases o with
  | ok a st => exact hP a st h
  | exn x st => exact hE x st h
  | bad => exact h

/-- where the written things lie, by number; what only the machine holds now (a comprehension's list in the making) -/
structure Bx where
  lo : List Addr
  pv : List Addr
def Bx.fre (β : Bx) (a : Addr) : Prop := a ∉ β.lo ∧ a ∉ β.pv
abbrev Env := List (Option D)
abbrev G (α : Type) := Env → Sto → Out α

/-- what does not change: the text, its heap at the start, the world, what is known besides -/
structure Zx where
  P : Program
  K : PySem.W.Frag
  w : World
  base : Heap
instance : Coe Zx PySem.W.Frag := ⟨Zx.K⟩
abbrev zOf (X : Cx) : Zx := ⟨X.prog, X.K, X.w, X.base⟩
/-- a lambda of the text -/
structure LamD where
  params : Arguments
  body : Expr
  scope : Scope
/-- the lambda that the def d hands on in its return -/
def lamIn (P : Program) (d : Str) : Option LamD := P.main.body.findSome? fun st => match st with
  | .FunctionDef n _ body _ _ _ _ _ _ _ => if n = d then (body.findSome? fun s => match s with
    | .Return (some (.Call _ args _ _)) _ => args.findSome? fun a => match a with
      | .Lambda ps b sc _ => some ⟨ps, b, sc⟩
      | _ => none
    | _ => none) else none
  | _ => none
/-- the name of the lambda of the def d -/
def lamQn (d : Str) : Str := d ++ (".<locals>." : Str) ++ ("<lambda>" : Str)
/-- the names that a lambda captures -/
def capN (sc : Scope) : List Str := sc.names.filterMap fun y => match y.2 with
  | .free => some y.1
  | _ => none
/-- what stands in the captured cells -/
def CapOk (base : Heap) (sc : Scope) (cl : List (Str × Addr)) (vs : List V) : Prop := vs.length = (capN sc).length ∧ (∀ (i : Nat) (x : Str) (v : V), (capN sc)[i]? = some x → vs[i]? = some v → (∃ c u, cl.lookup x = some c ∧ base.IsCell c (some u) ∧ RelV v u)) ∧
  (∀ x c, cl.lookup x = some c → x ∈ capN sc) ∧ ∀ x y c, cl.lookup x = some c → cl.lookup y = some c → x = y
section
variable (K : Zx)
/-- a list that is only read -/
def SqR (H : Hp) (a : Addr) (xs : List V) : Prop := (∃ o, H a = some (.frz o (.lst xs))) ∨
  ∃ (o : Obj) (its : Array Value) (n : Nat), K.K.lookup a = some o ∧ o.cls = .type "list" ∧ o.dict = none ∧ o.data = .seq its n ∧ its.size ≤ sizeLine ∧ Vals xs its.toList
mutual
inductive Rep (β : Bx) (H : Hp) : V → D → Prop
  | non : Rep β H .non .non
  | bl (b : Bool) : Rep β H (.bl b) (.bl b)
  | int (i : Int) : Rep β H (.int i) (.int i)
  | str (x : Str) : Rep β H (.str x) (.str x)
  | tup {a : Addr} {xs : List V} {ds : List D} : SqT K H a xs → Reps β H xs ds → ds.length ≤ sizeLine → Rep β H (.ref a) (.tup ds)
  | lst {a : Addr} {xs : List V} {ds : List D} : H a = some (.lst xs) → β.fre a → Reps β H xs ds → ds.length ≤ sizeLine → Rep β H (.ref a) (.lst ds)
  | ro {a : Addr} {xs : List V} {ds : List D} : SqR K H a xs → Reps β H xs ds → ds.length ≤ sizeLine → Rep β H (.ref a) (.ro ds)
  | ref {a : Addr} {n : Nat} : β.lo[n]? = some a → Rep β H (.ref a) (.ref n)
  | raw (v : V) : Rep β H v (.raw v)
  | clo {f c' : Addr} {d : Str} {L : LamD} {cl : List (Str × Addr)} {pm ctv : Value} {vs : List V} {ds : List D} : lamIn K.P d = some L → K.base.get? f = some (PySem.W.kla_obj "<lambda>" (lamQn d) L.params L.body L.scope cl pm c' ctv) →
      H c' = some (LamX.CodeO c' (lamQn d)) → CapOk K.base L.scope cl vs → Reps β H vs ds → Rep β H (.ref f) (.clo d ds)
inductive Reps (β : Bx) (H : Hp) : List V → List D → Prop
  | nil : Reps β H [] []
  | cons {v : V} {vs : List V} {d : D} {ds : List D} : Rep β H v d → Reps β H vs ds → Reps β H (v :: vs) (d :: ds)
end
end
/-- nothing stands there but a table -/
def Free (H : Hp) (p : Addr) : Prop := ∀ o, H p = some o → ∃ ps, o = .tbl ps
theorem Free.none {H : Hp} {p : Addr} (h : H p = .none) : Free H p := fun o z => by rw [h] at z; cases z
/-- how things move on: more may be written things, what isn't written stands -/
structure Ext (β : Bx) (H : Hp) (β' : Bx) (H' : Hp) : Prop where
  pre : ∃ new, β'.lo = β.lo ++ new ∧ ∀ p ∈ new, Free H p
  pv : β'.pv = β.pv
  keep : ∀ b o, b ∉ β.lo → H b = some o → (∀ ps, o ≠ .tbl ps) → H' b = some o
  tup : ∀ b xs, H b = some (.tup xs) → H' b = some (.tup xs)
  frz : ∀ b o u, H b = some (.frz o u) → H' b = some (.frz o u)
  dom : ∀ b o, H b = some o → (∀ ps, o ≠ .tbl ps) → ∃ o', H' b = some o' ∧ ∀ ps, o' ≠ .tbl ps
  cod : ∀ c q, H c = some (LamX.CodeO c q) → H' c = some (LamX.CodeO c q)
theorem Ext.refl (β : Bx) (H : Hp) : Ext β H β H := ⟨⟨[], by simp, by simp⟩, rfl, fun _ _ _ h _ => h, fun _ _ h => h, fun _ _ _ h => h, fun _ o h n => ⟨o, h, n⟩, fun _ _ h => h⟩
theorem Ext.trans {β β1 β2 : Bx} {H H1 H2 : Hp} (a : Ext β H β1 H1) (b : Ext β1 H1 β2 H2) : Ext β H β2 H2 := by
  obtain ⟨n1, e1, f1⟩ := a.pre
  obtain ⟨n2, e2, f2⟩ := b.pre
  refine ⟨⟨n1 ++ n2, by rw [e2, e1, List.append_assoc], fun p hp => ?_⟩, b.pv.trans a.pv, fun c o hc h hn => ?_, fun c xs h => b.tup c xs (a.tup c xs h), fun c o u h => b.frz c o u (a.frz c o u h), fun c o h n => ?_, fun c q h => b.cod c q (a.cod c q h)⟩
  · rcases List.mem_append.mp hp with hp | hp
    · exact f1 p hp
    · intro o q
      refine Classical.byContradiction fun hn => ?_
      obtain ⟨o', z, n⟩ := a.dom p o q fun ps z => hn ⟨ps, z⟩
      obtain ⟨ps, z⟩ := f2 p hp o' z
      exact n ps z
  · refine b.keep c o ?_ (a.keep c o hc h hn) hn
    rw [e1]
    intro z
    rcases List.mem_append.mp z with z | z
    · exact hc z
    · obtain ⟨ps, z⟩ := f1 c z o h
      exact hn ps z
  · obtain ⟨o', h', n'⟩ := a.dom c o h n
    exact b.dom c o' h' n'
theorem Ext.same {β : Bx} {H H' : Hp} (s : Same H H') : Ext β H β H' := ⟨⟨[], by simp, by simp⟩, rfl, fun _ _ _ h _ => s _ _ h, fun _ _ h => s _ _ h, fun _ _ _ h => s _ _ h, fun _ o h n => ⟨o, s _ _ h, n⟩, fun _ _ h => s _ _ h⟩
theorem same_new {H : Hp} {p : Addr} {o : HO} (h : H p = none) : Same H (upd H p o) := fun b x e => by
  rw [upd_ne (ne_of_none e h)]
  exact e
theorem Ext.new {β : Bx} {H : Hp} {p : Addr} {o : HO} (h : H p = none) : Ext β H β (upd H p o) := Ext.same (same_new h)
section
variable {K : Zx} {β β' : Bx} {H H' : Hp}
theorem Ext.mem (e : Ext β H β' H') {n : Nat} {a : Addr} (h : β.lo[n]? = some a) : β'.lo[n]? = some a := by
  obtain ⟨new, e1, _⟩ := e.pre
  rw [e1, List.getElem?_append_left (by exact (List.getElem?_eq_some_iff.mp h).1)]
  exact h
theorem Ext.nmem (e : Ext β H β' H') {a : Addr} {xs : List V} (h : H a = some (.lst xs)) (n : β.fre a) : β'.fre a := by
  obtain ⟨new, e1, f⟩ := e.pre
  refine ⟨fun z => ?_, by rw [e.pv]; exact n.2⟩
  rw [e1] at z
  rcases List.mem_append.mp z with z | z
  · exact n.1 z
  · obtain ⟨ps, z⟩ := f a z _ h
    cases z
theorem Ext.sqT (e : Ext β H β' H') {a : Addr} {xs : List V} (h : SqT K H a xs) : SqT K H' a xs := by
  rcases h with (h | ⟨o, h⟩) | h
  · exact .inl (.inl (e.tup _ _ h))
  · exact .inl (.inr ⟨o, e.frz _ _ _ h⟩)
  · exact .inr h
theorem Ext.sqR (e : Ext β H β' H') {a : Addr} {xs : List V} (h : SqR K H a xs) : SqR K H' a xs := by
  rcases h with ⟨o, h⟩ | h
  · exact .inl ⟨o, e.frz _ _ _ h⟩
  · exact .inr h
end

section
variable {K : Zx} {β β' : Bx} {H H' : Hp}
/-- what a value's data lean on stands -/
structure Mv (β : Bx) (H : Hp) (β' : Bx) (H' : Hp) : Prop where
  lst : ∀ a xs, H a = some (.lst xs) → β.fre a → H' a = some (.lst xs) ∧ β'.fre a
  tup : ∀ b xs, H b = some (.tup xs) → H' b = some (.tup xs)
  frz : ∀ b o u, H b = some (.frz o u) → H' b = some (.frz o u)
  mem : ∀ (n : Nat) (a : Addr), β.lo[n]? = some a → β'.lo[n]? = some a
  cod : ∀ c q, H c = some (LamX.CodeO c q) → H' c = some (LamX.CodeO c q)
theorem Mv.sqT (e : Mv β H β' H') {a : Addr} {xs : List V} (h : SqT K H a xs) : SqT K H' a xs := by
  rcases h with (h | ⟨o, h⟩) | h
  · exact .inl (.inl (e.tup _ _ h))
  · exact .inl (.inr ⟨o, e.frz _ _ _ h⟩)
  · exact .inr h
theorem Mv.sqR (e : Mv β H β' H') {a : Addr} {xs : List V} (h : SqR K H a xs) : SqR K H' a xs := by
  rcases h with ⟨o, h⟩ | h
  · exact .inl ⟨o, e.frz _ _ _ h⟩
  · exact .inr h
theorem Ext.mv (e : Ext β H β' H') : Mv β H β' H' := ⟨fun a xs h n => ⟨e.keep _ _ n.1 h (fun ps z => by cases z), e.nmem h n⟩, e.tup, e.frz, fun _ _ h => e.mem h, e.cod⟩
theorem Mv.trans {β2 : Bx} {H2 : Hp} (a : Mv β H β' H') (b : Mv β' H' β2 H2) : Mv β H β2 H2 :=
  ⟨fun c xs h n => let ⟨h1, n1⟩ := a.lst c xs h n; b.lst c xs h1 n1, fun c xs h => b.tup c xs (a.tup c xs h), fun c o u h => b.frz c o u (a.frz c o u h), fun n c h => b.mem n c (a.mem n c h), fun c q h => b.cod c q (a.cod c q h)⟩
mutual
theorem Rep.move (e : Mv β H β' H') : ∀ (d : D) (v : V), Rep K β H v d → Rep K β' H' v d
  | .non, _, h => by cases h; exact .non
  | .bl _, _, h => by cases h; exact .bl _
  | .int _, _, h => by cases h; exact .int _
  | .str _, _, h => by cases h; exact .str _
  | .tup ds, _, h => by cases h with | tup hs ha hl => exact .tup (e.sqT hs) (Reps.move e ds _ ha) hl
  | .lst ds, _, h => by cases h with | lst hs hn ha hl => exact .lst (e.lst _ _ hs hn).1 (e.lst _ _ hs hn).2 (Reps.move e ds _ ha) hl
  | .ro ds, _, h => by cases h with | ro hs ha hl => exact .ro (e.sqR hs) (Reps.move e ds _ ha) hl
  | .ref _, _, h => by cases h with | ref hm => exact .ref (e.mem _ _ hm)
  | .raw _, _, h => by cases h; exact .raw _
  | .clo _ ds, _, h => by cases h with | clo h1 h2 h3 h4 h5 => exact .clo h1 h2 (e.cod _ _ h3) h4 (Reps.move e ds _ h5)
theorem Reps.move (e : Mv β H β' H') : ∀ (ds : List D) (vs : List V), Reps K β H vs ds → Reps K β' H' vs ds
  | [], _, h => by cases h; exact .nil
  | d :: ds, _, h => by cases h with | cons h1 h2 => exact .cons (Rep.move e d _ h1) (Reps.move e ds _ h2)
end
theorem Rep.ext (e : Ext β H β' H') (d : D) (v : V) (h : Rep K β H v d) : Rep K β' H' v d := Rep.move e.mv d v h
theorem Reps.ext (e : Ext β H β' H') (d : List D) (v : List V) (h : Reps K β H v d) : Reps K β' H' v d := Reps.move e.mv d v h
theorem Reps.length : ∀ {vs : List V} {ds : List D}, Reps K β H vs ds → vs.length = ds.length
  | _, _, .nil => rfl
  | _, _, .cons _ t => congrArg (· + 1) (Reps.length t)
theorem Reps.append : ∀ {vs ws : List V} {ds es : List D}, Reps K β H vs ds → Reps K β H ws es → Reps K β H (vs ++ ws) (ds ++ es)
  | _, _, _, _, .nil, s => s
  | _, _, _, _, .cons r t, s => .cons r (Reps.append t s)
theorem Reps.get : ∀ {vs : List V} {ds : List D} {i : Nat} {d : D}, Reps K β H vs ds → ds[i]? = some d → ∃ v, vs[i]? = some v ∧ Rep K β H v d
  | _, _, _, _, .nil, e => by simp at e
  | _, _, 0, _, .cons r _, e => by simp at e; subst e; exact ⟨_, rfl, r⟩
  | _, _, i + 1, d, .cons _ t, e => by
    obtain ⟨v, h1, h2⟩ := Reps.get (i := i) (d := d) t (by simpa using e)
    exact ⟨v, by simpa using h1, h2⟩
theorem Reps.got : ∀ {vs : List V} {ds : List D} {i : Nat} {v : V}, Reps K β H vs ds → vs[i]? = some v → ∃ d, ds[i]? = some d ∧ Rep K β H v d
  | _, _, _, _, .nil, e => by simp at e
  | _, _, 0, _, .cons r _, e => by simp at e; subst e; exact ⟨_, rfl, r⟩
  | _, _, i + 1, v, .cons _ t, e => by
    obtain ⟨d, h1, h2⟩ := Reps.got (i := i) (v := v) t (by simpa using e)
    exact ⟨d, by simpa using h1, h2⟩
theorem Reps.take : ∀ {vs : List V} {ds : List D} (n : Nat), Reps K β H vs ds → Reps K β H (vs.take n) (ds.take n)
  | _, _, 0, _ => .nil
  | _, _, _ + 1, .nil => .nil
  | _, _, n + 1, .cons r t => .cons r (Reps.take n t)
theorem Reps.drop : ∀ {vs : List V} {ds : List D} (n : Nat), Reps K β H vs ds → Reps K β H (vs.drop n) (ds.drop n)
  | _, _, 0, r => r
  | _, _, _ + 1, .nil => .nil
  | _, _, n + 1, .cons _ t => Reps.drop n t
theorem Reps.set {v : V} {d : D} (r : Rep K β H v d) : ∀ {vs : List V} {ds : List D} (i : Nat), Reps K β H vs ds → Reps K β H (vs.set i v) (ds.set i d)
  | _, _, _, .nil => .nil
  | _, _, 0, .cons _ t => .cons r t
  | _, _, i + 1, .cons q t => .cons q (Reps.set r i t)
theorem Reps.one {vs : List V} {d : D} (h : Reps K β H vs [d]) : ∃ v, vs = [v] ∧ Rep K β H v d := by
  cases h with | cons r t => cases t; exact ⟨_, rfl, r⟩
theorem Reps.two {vs : List V} {d e : D} (h : Reps K β H vs [d, e]) : ∃ v w, vs = [v, w] ∧ Rep K β H v d ∧ Rep K β H w e := by
  cases h with
  | cons r t =>
    obtain ⟨w, rfl, q⟩ := t.one
    exact ⟨_, w, rfl, r, q⟩

/-! ### what is written -/
/-- where the law's own table of code objects lies -/
def tabOf (K : PySem.W.Frag) (o : Option Obj) : Addr := match o with
  | some ⟨_, _, .fields vs, _⟩ => (match vs[11]? with
    | some (Value.ref P) => P
    | _ => 0)
  | _ => 0
def codeAt (K : PySem.W.Frag) (o : Option Obj) : Option Obj := match o with
  | some ⟨_, _, .func fd, _⟩ => (match fd.code with
    | Value.ref c => K.lookup c
    | _ => none)
  | _ => none
def tabAddr (K : PySem.W.Frag) (d : Str) : Addr := match PySem.W.nsIn K mainGlobals d with
  | some (some (Value.ref f)) => tabOf K (codeAt K (K.lookup f))
  | _ => 0
/-! data as a key -/
mutual
def keyD : D → Option NestedKey
  | .non => some .none
  | .bl b => some (.num (if b then 1 else 0))
  | .int i => some (.num i)
  | .str x => some (.text x)
  | .tup l => (keysD l).map .tup
  | _ => none
def keysD : List D → Option (List NestedKey)
  | [] => some []
  | d :: ds => match keyD d, keysD ds with
    | some k, some ks => some (k :: ks)
    | _, _ => none
end
/-- a dict whose keys are tuples: the keys, where they lie, the values -/
def dictN (K : Zx) (a : Addr) (es : List (NestedKey × Addr × V)) : HO := .ext fun h => (es.map (·.1)).Nodup ∧ ∃ (o : Obj) (en : Array DictEntry) (ep : Nat) (us : List Value), h.get? a = some o ∧ o.ExactDict ∧ o.data = .dict en ep ∧ Vals (es.map (·.2.2)) us ∧
  en.toList = ((es.zip us).map fun p => (p.1.1, p.1.2.1, p.2)).map (entryOfKey (nestedKind K.P K.w))
def SORel (K : Zx) (β : Bx) (H : Hp) (a : Addr) : SO → Prop
  | .lst ds => ∃ xs, H a = some (.lst xs) ∧ Reps K β H xs ds
  | .dK kvs => ∃ vs, H a = some (.dK vs) ∧ vs.length = kvs.length ∧ vs.map (·.1) = kvs.map (·.1) ∧ Reps K β H (vs.map (·.2)) (kvs.map (·.2))
  | .tab d q => a = tabAddr K d ∧ LamX.TabS H a q
  | .dN kvs => ∃ es, H a = some (dictN K a es) ∧ es.length = kvs.length ∧ kvs.map (fun p => keyD p.1) = es.map (fun e => some e.1) ∧ Reps K β H (es.map fun e => V.ref e.2.1) (kvs.map (·.1)) ∧ Reps K β H (es.map (·.2.2)) (kvs.map (·.2))
  | .ins c fs => ∃ C dx vs, PySem.W.nsIn K mainGlobals c = some (some (.ref C)) ∧ H a = some (.ins C dx vs) ∧ vs.map (·.1) = fs.map (·.1) ∧ Reps K β H (vs.map (·.2)) (fs.map (·.2))
  | .lock => ∃ o u, H a = some (.frz o u)
structure StoOk (K : Zx) (β : Bx) (H : Hp) (st : Sto) : Prop where
  len : β.lo.length = st.length
  nd : β.lo.Nodup
  obj : ∀ (n : Nat) (a : Addr) (o : SO), β.lo[n]? = some a → st[n]? = some o → SORel K β H a o
  priv : ∀ p ∈ β.pv, ∃ u, H p = some u ∧ ∀ ps, u ≠ .tbl ps
theorem SORel.there {a : Addr} {o : SO} (h : SORel K β H a o) : ∃ u, H a = some u := by
  cases o with
  | lst ds => obtain ⟨xs, h, _⟩ := h; exact ⟨_, h⟩
  | dK kvs => obtain ⟨vs, h, _⟩ := h; exact ⟨_, h⟩
  | tab d q => obtain ⟨_, ps, h, _⟩ := h; exact ⟨_, h⟩
  | dN kvs => obtain ⟨es, h, _⟩ := h; exact ⟨_, h⟩
  | ins c fs => obtain ⟨C, dx, vs, _, h, _⟩ := h; exact ⟨_, h⟩
  | lock => obtain ⟨o, u, h⟩ := h; exact ⟨_, h⟩
theorem StoOk.get {st : Sto} (S : StoOk K β H st) {n : Nat} {a : Addr} (h : β.lo[n]? = some a) : ∃ o, st[n]? = some o ∧ SORel K β H a o := by
  have hl : n < st.length := by rw [← S.len]; exact (List.getElem?_eq_some_iff.mp h).1
  exact ⟨st[n], List.getElem?_eq_getElem hl, S.obj n a _ h (List.getElem?_eq_getElem hl)⟩
theorem StoOk.some {st : Sto} (S : StoOk K β H st) {a : Addr} (h : a ∈ β.lo) : ∃ u, H a = some u := by
  obtain ⟨n, hn⟩ := List.mem_iff_getElem?.mp h
  obtain ⟨o, _, r⟩ := S.get hn
  exact r.there
theorem StoOk.nmem {st : Sto} (S : StoOk K β H st) {a : Addr} (h : H a = none) : β.fre a := by
  refine ⟨fun z => ?_, fun z => ?_⟩
  · obtain ⟨u, hu⟩ := S.some z
    rw [h] at hu
    cases hu
  · obtain ⟨u, hu, _⟩ := S.priv a z
    rw [h] at hu
    cases hu
theorem SORel.same {a : Addr} {o : SO} (s : Same H H') (h : SORel K β H a o) : SORel K β H' a o := by
  cases o with
  | lst ds => obtain ⟨xs, h, r⟩ := h; exact ⟨xs, s _ _ h, Reps.ext (Ext.same s) _ _ r⟩
  | dK kvs => obtain ⟨vs, h, l, k, r⟩ := h; exact ⟨vs, s _ _ h, l, k, Reps.ext (Ext.same s) _ _ r⟩
  | tab d q => exact ⟨h.1, h.2.ext s⟩
  | dN kvs => obtain ⟨es, h, l, k, r1, r2⟩ := h; exact ⟨es, s _ _ h, l, k, Reps.ext (Ext.same s) _ _ r1, Reps.ext (Ext.same s) _ _ r2⟩
  | ins c fs => obtain ⟨C, dx, vs, hc, h, l, r⟩ := h; exact ⟨C, dx, vs, hc, s _ _ h, l, Reps.ext (Ext.same s) _ _ r⟩
  | lock => obtain ⟨o, u, h⟩ := h; exact ⟨o, u, s _ _ h⟩
theorem StoOk.same {st : Sto} (S : StoOk K β H st) (s : Same H H') : StoOk K β H' st := ⟨S.len, S.nd, fun n a o h1 h2 => (S.obj n a o h1 h2).same s, fun p hp => let ⟨u, hu, n⟩ := S.priv p hp; ⟨u, s _ _ hu, n⟩⟩
theorem StoOk.fresh {st : Sto} (S : StoOk K β H st) {p : Addr} {o : HO} (h : H p = none) : StoOk K β (upd H p o) st := S.same (same_new h)

theorem tab_move {a : Addr} {q : Str} (e : Mv β H β' H') (k : ∀ u, H a = some u → H' a = some u) (h : LamX.TabS H a q) : LamX.TabS H' a q := by
  obtain ⟨ps, h1, h2, h3⟩ := h
  refine ⟨ps, k _ h1, h2, fun pos cv hc => ?_⟩
  obtain ⟨c, e1, e2⟩ := h3 pos cv hc
  exact ⟨c, e1, e.cod c q e2⟩
theorem SORel.move {a : Addr} {o : SO} (e : Mv β H β' H') (k : ∀ u, H a = some u → H' a = some u) (h : SORel K β H a o) : SORel K β' H' a o := by
  cases o with
  | lst ds => obtain ⟨xs, h, r⟩ := h; exact ⟨xs, k _ h, Reps.move e _ _ r⟩
  | dK kvs => obtain ⟨vs, h, l, q, r⟩ := h; exact ⟨vs, k _ h, l, q, Reps.move e _ _ r⟩
  | tab d q => exact ⟨h.1, tab_move e k h.2⟩
  | dN kvs => obtain ⟨es, h, l, q, r1, r2⟩ := h; exact ⟨es, k _ h, l, q, Reps.move e _ _ r1, Reps.move e _ _ r2⟩
  | ins c fs => obtain ⟨C, dx, vs, hc, h, l, r⟩ := h; exact ⟨C, dx, vs, hc, k _ h, l, Reps.move e _ _ r⟩
  | lock => obtain ⟨o, u, h⟩ := h; exact ⟨o, u, k _ h⟩
/-- the machine holds a new thing at p -/
def Bx.hold (β : Bx) (p : Addr) : Bx := ⟨β.lo, p :: β.pv⟩
/-- .. gives it away -/
def Bx.back (β : Bx) (pv : List Addr) : Bx := ⟨β.lo, pv⟩
theorem Mv.hold {p : Addr} {o : HO} (h : H p = none) : Mv β H (β.hold p) (upd H p o) :=
  ⟨fun a xs ha n => ⟨same_new h _ _ ha, n.1, fun z => (List.mem_cons.mp z).elim (fun e => ne_of_none ha h e) n.2⟩, fun _ _ q => same_new h _ _ q, fun _ _ _ q => same_new h _ _ q, fun _ _ q => q, fun _ _ q => same_new h _ _ q⟩
theorem StoOk.hold {st : Sto} {p : Addr} {o : HO} (S : StoOk K β H st) (h : H p = none) (no : ∀ ps, o ≠ .tbl ps := by intro _ z; cases z) : StoOk K (β.hold p) (upd H p o) st :=
  ⟨S.len, S.nd, fun n a u h1 h2 => (S.obj n a u h1 h2).move (Mv.hold h) fun _ q => same_new h _ _ q, fun q hq => by
    rcases List.mem_cons.mp hq with rfl | hq
    · exact ⟨o, upd_same, no⟩
    · obtain ⟨u, hu, n⟩ := S.priv q hq
      exact ⟨u, same_new h _ _ hu, n⟩⟩
theorem Mv.poke {p : Addr} {xs : List V} {o : HO} (hp : p ∈ β.pv) (h : H p = some (.lst xs)) : Mv β H β (upd H p o) := by
  have ne : ∀ b u, H b = some u → u ≠ .lst xs → b ≠ p := fun b u q n z => by
    rw [z, h] at q
    exact n (Option.some.inj q).symm
  exact ⟨fun a xs ha n => ⟨by rw [upd_ne (show a ≠ p from fun z => n.2 (by rw [z]; exact hp))]; exact ha, n⟩, fun b _ q => by rw [upd_ne (ne b _ q fun z => by cases z)]; exact q, fun b _ _ q => by rw [upd_ne (ne b _ q fun z => by cases z)]; exact q, fun _ _ q => q, fun b _ q => by rw [upd_ne (ne b _ q fun z => by cases z)]; exact q⟩
theorem StoOk.poke {st : Sto} {p : Addr} {xs : List V} {o : HO} (S : StoOk K β H st) (hp : p ∈ β.pv) (hl : p ∉ β.lo) (h : H p = Option.some (.lst xs)) (no : ∀ ps, o ≠ .tbl ps := by intro _ z; cases z) : StoOk K β (upd H p o) st :=
  ⟨S.len, S.nd, fun n a u h1 h2 => (S.obj n a u h1 h2).move (Mv.poke hp h) fun v q => by rw [upd_ne (show a ≠ p from fun z => hl (by rw [← z]; exact List.mem_iff_getElem?.mpr ⟨n, h1⟩))]; exact q, fun q hq => by
    by_cases e : q = p
    · exact ⟨o, by rw [e, upd_same], no⟩
    · obtain ⟨u, hu, n⟩ := S.priv q hq
      exact ⟨u, by rw [upd_ne e]; exact hu, n⟩⟩
theorem Mv.back {pv : List Addr} (hs : ∀ a ∈ pv, a ∈ β.pv) : Mv β H (β.back pv) H := ⟨fun a xs h n => ⟨h, n.1, fun z => n.2 (hs a z)⟩, fun _ _ q => q, fun _ _ _ q => q, fun _ _ q => q, fun _ _ q => q⟩
theorem StoOk.back {st : Sto} {pv : List Addr} (S : StoOk K β H st) (hs : ∀ a ∈ pv, a ∈ β.pv) : StoOk K (β.back pv) H st :=
  ⟨S.len, S.nd, fun n a u h1 h2 => (S.obj n a u h1 h2).move (Mv.back hs) fun _ q => q, fun q hq => S.priv q (hs q hq)⟩
/-- while p was held -/
theorem Ext.held {β1 : Bx} {H1 : Hp} {p : Addr} {o : HO} (h : H p = none) (e : Ext (β.hold p) (upd H p o) β1 H1) : Ext β H (β1.back β.pv) H1 := by
  obtain ⟨new, e1, f⟩ := e.pre
  refine ⟨⟨new, e1, fun q hq => ?_⟩, rfl, fun b u hb hu hn => e.keep b u hb (same_new h _ _ hu) hn, fun b xs q => e.tup b xs (same_new h _ _ q), fun b o u q => e.frz b o u (same_new h _ _ q), fun b u q n => e.dom b u (same_new h _ _ q) n, fun c q z => e.cod c q (same_new h _ _ z)⟩
  have z := f q hq
  by_cases hqp : q = p
  · rw [hqp]; exact Free.none h
  · intro w hw
    exact z w (by rw [upd_ne hqp]; exact hw)
theorem Ext.poke {β1 : Bx} {H1 : Hp} {p : Addr} {ys : List V} {xs : List V} {u : HO} (h : H p = none) (e : Ext (β.hold p) (upd H p (.lst ys)) β1 H1) (hx : H1 p = some (.lst xs)) (no : ∀ ps, u ≠ .tbl ps := by intro _ z; cases z) : Ext (β.hold p) (upd H p u) β1 (upd H1 p u) := by
  obtain ⟨new, e1, f⟩ := e.pre
  have up : ∀ {b : Addr} {w x : HO}, b ≠ p → upd H p w b = some x → upd H p (.lst ys) b = some x := fun {b w x} n q => by rw [upd_ne n] at q ⊢; exact q
  refine ⟨⟨new, e1, fun q hq => ?_⟩, e.pv, fun b v hb hv hn => ?_, fun b ys q => ?_, fun b w v q => ?_, fun b v q n => ?_, fun c q' z => ?_⟩
  · have z := f q hq
    by_cases hqp : q = p
    · obtain ⟨ps, z⟩ := z (.lst ys) (by rw [hqp, upd_same])
      cases z
    · intro w hw
      exact z w (up hqp hw)
  · by_cases hbp : b = p
    · rw [hbp, upd_same] at hv ⊢
      exact hv
    · rw [upd_ne hbp]
      exact e.keep b v hb (up hbp hv) hn
  · by_cases hbp : b = p
    · rw [hbp, upd_same] at q ⊢
      exact q
    · rw [upd_ne hbp]
      exact e.tup b ys (up hbp q)
  · by_cases hbp : b = p
    · rw [hbp, upd_same] at q ⊢
      exact q
    · rw [upd_ne hbp]
      exact e.frz b w v (up hbp q)
  · by_cases hbp : b = p
    · exact ⟨u, by rw [hbp, upd_same], no⟩
    · rw [upd_ne hbp]
      exact e.dom b v (up hbp q) n
  · by_cases hbp : c = p
    · rw [hbp, upd_same] at z ⊢
      exact z
    · rw [upd_ne hbp]
      exact e.cod c q' (up hbp z)

/-! ### the slots -/
def RepEnv (K : Zx) (β : Bx) (H : Hp) (σ : St) (ρ : Env) : Prop := σ.length = ρ.length ∧ ∀ (i : Nat) (d : D), ρ[i]? = some (some d) → ∃ v, σ[i]? = some (some v) ∧ Rep K β H v d
theorem RepEnv.ext {σ : St} {ρ : Env} (h : RepEnv K β H σ ρ) (e : Ext β H β' H') : RepEnv K β' H' σ ρ := ⟨h.1, fun i d q => by
  obtain ⟨v, h1, h2⟩ := h.2 i d q
  exact ⟨v, h1, Rep.ext e _ _ h2⟩⟩
theorem RepEnv.set {σ : St} {ρ : Env} (h : RepEnv K β H σ ρ) (i : Nat) {v : V} {d : D} (r : Rep K β H v d) : RepEnv K β H (σ.set i (some v)) (ρ.set i (some d)) := by
  refine ⟨by rw [List.length_set, List.length_set]; exact h.1, fun j e q => ?_⟩
  by_cases hj : i = j
  · subst hj
    have hl : i < ρ.length := by
      have := (List.getElem?_eq_some_iff.mp q).1
      simpa using this
    rw [List.getElem?_set_self hl] at q
    have q := Option.some.inj (Option.some.inj q)
    subst q
    exact ⟨v, List.getElem?_set_self (by rw [h.1]; exact hl), r⟩
  · rw [List.getElem?_set_ne hj] at q
    obtain ⟨w, h1, h2⟩ := h.2 j e q
    exact ⟨w, by rw [List.getElem?_set_ne hj]; exact h1, h2⟩

/-! ### ends -/
/-- an error by its class's name -/
def XRep (K : Zx) (mg : Str → Option Value) (β : Bx) (H : Hp) (x : Exn) (cls : Value) (dd : Option Addr) : Prop :=
  mg x.cls = some cls ∧ match x.fld with
    | none => dd = none
    | some (f, d) => ∃ da v, dd = some da ∧ H da = some (.xd [(f, v)]) ∧ Rep K β H v d
def PostV (K : Zx) (Q : VK) (β : Bx) (H : Hp) : D → Sto → Prop := fun d st' => ∀ v β' H', Ext β H β' H' → StoOk K β' H' st' → Rep K β' H' v d → Q v H'
def PostX (K : Zx) (mg : Str → Option Value) (E : XK) (β : Bx) (H : Hp) : Exn → Sto → Prop := fun x st' => ∀ cls dd β' H', Ext β H β' H' → StoOk K β' H' st' → XRep K mg β' H' x cls dd → E cls dd H'
theorem PostV.ext {Q : VK} {d : D} {st : Sto} (p : PostV K Q β H d st) (e : Ext β H β' H') : PostV K Q β' H' d st := fun v β2 H2 e2 => p v β2 H2 (e.trans e2)
theorem PostX.ext {mg : Str → Option Value} {E : XK} {x : Exn} {st : Sto} (p : PostX K mg E β H x st) (e : Ext β H β' H') : PostX K mg E β' H' x st := fun c d β2 H2 e2 => p c d β2 H2 (e.trans e2)
end

/-- an expression's reading by its data -/
def tD (K : Zx) (mg : Str → Option Value) (W : WX) (f : G D) : TE := fun σ H Q => ∃ β ρ st, RepEnv K β H σ ρ ∧ StoOk K β H st ∧
  (f ρ st).sat (PostV K Q β H) (PostX K mg (fun c d H' => W c d σ H') β H)
def PostB (K : Zx) (Q : Bool → Hp → Prop) (β : Bx) (H : Hp) : Bool → Sto → Prop := fun b st' => ∀ β' H', Ext β H β' H' → StoOk K β' H' st' → Q b H'
def tDT (K : Zx) (mg : Str → Option Value) (W : WX) (f : G Bool) : TT := fun σ H Q => ∃ β ρ st, RepEnv K β H σ ρ ∧ StoOk K β H st ∧
  (f ρ st).sat (PostB K Q β H) (PostX K mg (fun c d H' => W c d σ H') β H)
def PostA (K : Zx) (Q : List V → Hp → Prop) (β : Bx) (H : Hp) : List D → Sto → Prop := fun ds st' => ∀ vs β' H', Ext β H β' H' → StoOk K β' H' st' → Reps K β' H' vs ds → Q vs H'
def tDA (K : Zx) (mg : Str → Option Value) (W : WX) (f : G (List D)) : TA := fun σ H Q => ∃ β ρ st, RepEnv K β H σ ρ ∧ StoOk K β H st ∧
  (f ρ st).sat (PostA K Q β H) (PostX K mg (fun c d H' => W c d σ H') β H)
inductive Fl where
  | nx (ρ : Env) | rt (d : D) | bk (ρ : Env) | ct (ρ : Env)
def PostF (K : Zx) (D' : Ends) (β : Bx) (H : Hp) : Fl → Sto → Prop := fun f st' => match f with
  | .nx ρ => ∀ σ β' H', Ext β H β' H' → StoOk K β' H' st' → RepEnv K β' H' σ ρ → D'.nx σ H'
  | .rt d => ∀ v β' H', Ext β H β' H' → StoOk K β' H' st' → Rep K β' H' v d → D'.rt v H'
  | .bk ρ => ∀ σ β' H', Ext β H β' H' → StoOk K β' H' st' → RepEnv K β' H' σ ρ → D'.bk σ H'
  | .ct ρ => ∀ σ β' H', Ext β H β' H' → StoOk K β' H' st' → RepEnv K β' H' σ ρ → D'.ct σ H'
def PostXS (K : Zx) (mg : Str → Option Value) (W : WX) (β : Bx) (H : Hp) : Exn → Sto → Prop := fun x st' => ∀ cls dd σ β' H', Ext β H β' H' → StoOk K β' H' st' → XRep K mg β' H' x cls dd → W cls dd σ H'
def tDS (K : Zx) (mg : Str → Option Value) (W : WX) (f : G Fl) : TS := fun D' σ H => ∃ β ρ st, RepEnv K β H σ ρ ∧ StoOk K β H st ∧
  (f ρ st).sat (PostF K D' β H) (PostXS K mg W β H)

theorem PEmono {X : Cx} {e : Expr} {t t' : TE} (h : PE X e t) (i : ∀ σ H Q, t' σ H Q → t σ H Q) : PE X e t' := ⟨fun pins s σ H Q I q => h.run pins s σ H Q I (i _ _ _ q)⟩
theorem PTmono {X : Cx} {e : Expr} {t t' : TT} (h : PT X e t) (i : ∀ σ H Q, t' σ H Q → t σ H Q) : PT X e t' := ⟨fun pins s σ H Q I q => h.run pins s σ H Q I (i _ _ _ q)⟩
theorem PWmono {X : Cx} {e : Expr} {t t' : TT} (h : PW X e t) (i : ∀ σ H Q, t' σ H Q → t σ H Q) : PW X e t' := ⟨fun wh pins s σ H Q I q => h.run wh pins s σ H Q I (i _ _ _ q)⟩
theorem PAmono {X : Cx} {es : List Expr} {t t' : TA} (h : PA X es t) (i : ∀ σ H Q, t' σ H Q → t σ H Q) : PA X es t' := ⟨fun pos pins s σ H Q I q => h.run pos pins s σ H Q I (i _ _ _ q)⟩
theorem PSmono {X : Cx} {st : Stmt} {t t' : TS} (h : PS X st t) (i : ∀ D' σ H, t' D' σ H → t D' σ H) : PS X st t' := ⟨fun pins s σ H D' I q => h.run pins s σ H D' I (i _ _ _ q)⟩
theorem PSsmono {X : Cx} {st : List Stmt} {t t' : TS} (h : PSs X st t) (i : ∀ D' σ H, t' D' σ H → t D' σ H) : PSs X st t' := ⟨fun pins s σ H D' I q => h.run pins s σ H D' I (i _ _ _ q)⟩
theorem PImono {X : Cx} {tg e : Expr} {t t' : TI} (h : PI X tg e t) (i : ∀ σ H R, t' σ H R → t σ H R) : PI X tg e t' := ⟨fun pins s σ H R I q => h.run pins s σ H R I (i _ _ _ q)⟩
theorem PGmono {X : Cx} {tg : Expr} {t t' : TG} (h : PG X tg t) (i : ∀ v σ H Q, t' v σ H Q → t v σ H Q) : PG X tg t' := ⟨fun pins s σ H v u Q I r q => h.run pins s σ H v u Q I r (i _ _ _ _ q)⟩

abbrev DE (X : Cx) (W : WX) (e : Expr) (f : G D) : Prop := PE X e (tD (zOf X) X.mg W f)
abbrev DT (X : Cx) (W : WX) (e : Expr) (f : G Bool) : Prop := PT X e (tDT (zOf X) X.mg W f)
abbrev DW (X : Cx) (W : WX) (e : Expr) (f : G Bool) : Prop := PW X e (tDT (zOf X) X.mg W f)
abbrev DA (X : Cx) (W : WX) (es : List Expr) (f : G (List D)) : Prop := PA X es (tDA (zOf X) X.mg W f)
abbrev DS (X : Cx) (W : WX) (st : Stmt) (f : G Fl) : Prop := PS X st (tDS (zOf X) X.mg W f)
abbrev DSs (X : Cx) (W : WX) (st : List Stmt) (f : G Fl) : Prop := PSs X st (tDS (zOf X) X.mg W f)
end DL

set_option Elab.async false
set_option linter.all false
set_option maxRecDepth 100000
set_option maxHeartbeats 2000000
namespace DL
open PySem PySem.Spec L2
open PyProof.Rows hiding St

/-! ### data as PyData, for == and in -/
mutual
def D.py : D → PyData
  | .non => .none
  | .bl b => .bool b
  | .int i => .int i
  | .str x => .str x
  | .tup l => .tuple (D.pys l)
  | .lst l => .list (D.pys l)
  | .ro l => .list (D.pys l)
  | .ref _ => .dict []
  | .raw _ => .dict []
  | .clo _ _ => .dict []
def D.pys : List D → List PyData
  | [] => []
  | d :: ds => D.py d :: D.pys ds
end
section
variable {K : Zx} {β : Bx} {H : Hp}
theorem SqR.sqL {a : Addr} {xs : List V} (h : SqR K H a xs) : SqL K H a xs := by
  rcases h with ⟨o, h⟩ | h
  · exact .inl (.inr ⟨o, h⟩)
  · exact .inr h
mutual
theorem Rep.dp : ∀ (d : D) (v : V), d.py.canLay0 = true → Rep K β H v d → Dp K H v d.py
  | .non, _, _, h => by cases h; simp only [D.py]; exact .non
  | .bl _, _, _, h => by cases h; simp only [D.py]; exact .bl _
  | .int _, _, _, h => by cases h; simp only [D.py]; exact .int _
  | .str _, _, _, h => by cases h; simp only [D.py]; exact .str _
  | .tup ds, _, c, h => by
    cases h with
    | tup hs ha hl =>
      simp only [D.py, PyData.canLay0] at c ⊢
      exact .tup hs (Reps.dp ds _ c ha)
  | .lst ds, _, c, h => by
    cases h with
    | lst hs hn ha hl =>
      simp only [D.py, PyData.canLay0] at c ⊢
      exact .lst (.inl (.inl hs)) (Reps.dp ds _ c ha)
  | .ro ds, _, c, h => by
    cases h with
    | ro hs ha hl =>
      simp only [D.py, PyData.canLay0] at c ⊢
      exact .lst hs.sqL (Reps.dp ds _ c ha)
  | .ref _, _, c, h => by simp [D.py, PyData.canLay0] at c
  | .raw _, _, c, h => by simp [D.py, PyData.canLay0] at c
  | .clo _ _, _, c, h => by simp [D.py, PyData.canLay0] at c
theorem Reps.dp : ∀ (ds : List D) (vs : List V), PyData.canLayAll0 (D.pys ds) = true → Reps K β H vs ds → DpAll K H vs (D.pys ds)
  | [], _, _, h => by cases h; simp only [D.pys]; exact .nil
  | d :: ds, _, c, h => by
    cases h with
    | cons h1 h2 =>
      simp only [D.pys, PyData.canLayAll0, Bool.and_eq_true] at c ⊢
      exact .cons (Rep.dp d _ c.1 h1) (Reps.dp ds _ c.2 h2)
end
end

/-! ### operators by values -/
def oout {α : Type} (o : Option α) (st : Sto) : Out α := match o with
  | some a => .ok a st
  | none => .bad
@[simp] theorem oout_some {α : Type} (a : α) (st : Sto) : oout (some a) st = .ok a st := rfl
@[simp] theorem oout_none {α : Type} (st : Sto) : oout (none : Option α) st = .bad := rfl
theorem oout_sat {α : Type} {o : Option α} {st : Sto} {P : α → Sto → Prop} {E : Exn → Sto → Prop} (h : (oout o st).sat P E) : ∃ a, o = some a ∧ P a st := by
  cases o with
  | none => exact h.elim
  | some a => exact ⟨a, rfl, h⟩
/-- what a rule by values asks, by data: nothing that is written changes -/
def OpD (K : Zx) (r : R2) (m : D → D → Sto → Option D) : Prop := ∀ (β : Bx) (H : Hp) (st : Sto) (x y : V) (dx dy d : D) (Q : VK), Rep K β H x dx → Rep K β H y dy → StoOk K β H st → m dx dy st = some d →
  (∀ v H', Same H H' → Rep K β H' v d → Q v H') → r x y H Q
def UnD (K : Zx) (r : V → Hp → VK → Prop) (m : D → Sto → Option D) : Prop := ∀ (β : Bx) (H : Hp) (st : Sto) (x : V) (dx d : D) (Q : VK), Rep K β H x dx → StoOk K β H st → m dx st = some d →
  (∀ v H', Same H H' → Rep K β H' v d → Q v H') → r x H Q
def CallD (K : Zx) (r : List V → Hp → VK → Prop) (m : List D → Sto → Option D) : Prop := ∀ (β : Bx) (H : Hp) (st : Sto) (xs : List V) (ds : List D) (d : D) (Q : VK), Reps K β H xs ds → StoOk K β H st → m ds st = some d →
  (∀ v H', Same H H' → Rep K β H' v d → Q v H') → r xs H Q

def gC (d : D) : G D := fun _ st => .ok d st
def gVar (i : Nat) : G D := fun ρ st => match ρ[i]? with
  | some (some d) => .ok d st
  | _ => .bad
def gOp (m : D → D → Sto → Option D) (f g : G D) : G D := fun ρ st => (f ρ st).bind fun d s1 => (g ρ s1).bind fun e s2 => oout (m d e s2) s2
def gUn (m : D → Sto → Option D) (f : G D) : G D := fun ρ st => (f ρ st).bind fun d s1 => oout (m d s1) s1
def aNil : G (List D) := fun _ st => .ok [] st
def aCons (f : G D) (g : G (List D)) : G (List D) := fun ρ st => (f ρ st).bind fun d s1 => (g ρ s1).bind fun ds s2 => .ok (d :: ds) s2
def gCB (m : List D → Sto → Option D) (f : G (List D)) : G D := fun ρ st => (f ρ st).bind fun ds s1 => oout (m ds s1) s1

section
variable {K : Zx} {mg : Str → Option Value} {W : WX} {β : Bx} {H : Hp} {σ : L2.St} {ρ : Env} {st : Sto}
theorem tD_intro {f : G D} {P : D → Sto → Prop} {E : Exn → Sto → Prop} {R : VK} (hρ : RepEnv K β H σ ρ) (hs : StoOk K β H st) (h : (f ρ st).sat P E)
    (hP : ∀ d st', P d st' → ∀ v β' H', Ext β H β' H' → StoOk K β' H' st' → Rep K β' H' v d → R v H') (hE : ∀ x st', E x st' → PostX K mg (fun c d H' => W c d σ H') β H x st') : tD K mg W f σ H R :=
  ⟨β, ρ, st, hρ, hs, h.mono hP hE⟩
theorem tDA_intro {f : G (List D)} {P : List D → Sto → Prop} {E : Exn → Sto → Prop} {R : List V → Hp → Prop} (hρ : RepEnv K β H σ ρ) (hs : StoOk K β H st) (h : (f ρ st).sat P E)
    (hP : ∀ d st', P d st' → ∀ v β' H', Ext β H β' H' → StoOk K β' H' st' → Reps K β' H' v d → R v H') (hE : ∀ x st', E x st' → PostX K mg (fun c d H' => W c d σ H') β H x st') : tDA K mg W f σ H R :=
  ⟨β, ρ, st, hρ, hs, h.mono hP hE⟩
theorem tDT_intro {f : G Bool} {P : Bool → Sto → Prop} {E : Exn → Sto → Prop} {R : Bool → Hp → Prop} (hρ : RepEnv K β H σ ρ) (hs : StoOk K β H st) (h : (f ρ st).sat P E)
    (hP : ∀ d st', P d st' → ∀ β' H', Ext β H β' H' → StoOk K β' H' st' → R d H') (hE : ∀ x st', E x st' → PostX K mg (fun c d H' => W c d σ H') β H x st') : tDT K mg W f σ H R :=
  ⟨β, ρ, st, hρ, hs, h.mono hP hE⟩
end

section
variable {X : Cx} {W : WX} {pos : Pos} {a b e : Expr} {es : List Expr} {f g : G D} {fs : G (List D)}
theorem de_var (i : Nat) {x : Str} (hN : X.N[i]? = some x := by rfl) (hv : Vis X.env.scope x := by first | exact Or.inl rfl | exact Or.inr (Or.inl rfl) | exact Or.inr (Or.inr rfl)) (hd : (x == ("__debug__" : Str)) = false := by decide)
    (hcd : (x == ("__classdict__" : Str)) = false := by decide) : DE X W (.Name x pos) (gVar i) := by
  refine PEmono (pe_var hN hv hd hcd) fun σ H Q h => ?_
  obtain ⟨β, ρ, st, hρ, hs, h⟩ := h
  unfold gVar at h
  split at h
  · rename_i d hd
    obtain ⟨v, hv, r⟩ := hρ.2 i d hd
    exact ⟨v, hv, h v β H (Ext.refl β H) hs r⟩
  · exact h.elim
theorem de_const {e : Expr} {v : V} {d : D} (h : PE X e (tC v)) (r : ∀ β H, Rep (zOf X) β H v d) : DE X W e (gC d) := by
  refine PEmono h fun σ H Q h => ?_
  obtain ⟨β, ρ, st, hρ, hs, h⟩ := h
  exact h v β H (Ext.refl β H) hs (r β H)
theorem de_int {i j} : DE X W (.Constant (.int i) j pos) (gC (.int i)) := de_const pe_int fun _ _ => .int i
theorem de_bl {b j} : DE X W (.Constant (.bool b) j pos) (gC (.bl b)) := de_const pe_bl fun _ _ => .bl b
theorem de_non {j} : DE X W (.Constant .none j pos) (gC .non) := de_const pe_non fun _ _ => .non
theorem de_str {x j} : DE X W (.Constant (.str x) j pos) (gC (.str x)) := de_const pe_str fun _ _ => .str x
theorem de_glob {x : Str} {v : V} {u : Value} {d : D} (hg : Gl X x) (hm : X.mg x = some u) (r : RelV v u) (rd : ∀ β H, Rep (zOf X) β H v d) (hd : (x == ("__debug__" : Str)) = false := by decide) : DE X W (.Name x pos) (gC d) := de_const (pe_glob hg hm r hd) rd
theorem de_type {x : Str} {T : String} (hg : Gl X x) (hm : X.mg x = none) (hv : bootBuiltins x = some (.type T)) (hn : x ≠ "__name__" := by decide) (hd : (x == ("__debug__" : Str)) = false := by decide) : DE X W (.Name x pos) (gC (.raw (.ty T))) :=
  de_const (pe_bltn hg hm hv (v := .ty T) rfl hn hd) fun _ _ => .raw _
theorem de_op {op : Operator} {r : R2} {m : D → D → Sto → Option D} (ho : OpR X (binaryOp op) r) (hm : OpD (zOf X) r m) (ha : DE X W a f) (hb : DE X W b g) : DE X W (.BinOp a op b pos) (gOp m f g) := by
  refine PEmono (pe_op ho ha hb) fun σ H Q h => ?_
  obtain ⟨β, ρ, st, hρ, hs, h⟩ := h
  refine tD_intro hρ hs (Out.sat_bind h) (fun d s1 h1 v β1 H1 e1 S1 r1 => ?_) fun _ _ q => q
  refine tD_intro (hρ.ext e1) S1 (Out.sat_bind h1) (fun d2 s2 h2 v2 β2 H2 e2 S2 r2 => ?_) fun _ _ q => q.ext e1
  obtain ⟨d3, q, p⟩ := oout_sat h2
  exact hm β2 H2 s2 v v2 d d2 d3 Q (Rep.ext e2 _ _ r1) r2 S2 q fun w' H' s' r' => p w' β2 H' ((e1.trans e2).trans (Ext.same s')) (S2.same s') r'
theorem de_cmp {op : CmpOp} {r : R2} {m : D → D → Sto → Option D} (ho : OpR X (compareOp op) r) (hm : OpD (zOf X) r m) (ha : DE X W a f) (hb : DE X W b g) (hb' : behindInMarks op b = false := by rfl) : DE X W (.Compare a [op] [b] pos) (gOp m f g) := by
  refine PEmono (pe_cmpR ho ha hb hb') fun σ H Q h => ?_
  obtain ⟨β, ρ, st, hρ, hs, h⟩ := h
  refine tD_intro hρ hs (Out.sat_bind h) (fun d s1 h1 v β1 H1 e1 S1 r1 => ?_) fun _ _ q => q
  refine tD_intro (hρ.ext e1) S1 (Out.sat_bind h1) (fun d2 s2 h2 v2 β2 H2 e2 S2 r2 => ?_) fun _ _ q => q.ext e1
  obtain ⟨d3, q, p⟩ := oout_sat h2
  exact hm β2 H2 s2 v v2 d d2 d3 Q (Rep.ext e2 _ _ r1) r2 S2 q fun w' H' s' r' => p w' β2 H' ((e1.trans e2).trans (Ext.same s')) (S2.same s') r'
theorem de_ix {r : R2} {m : D → D → Sto → Option D} (ho : IxR X r) (hm : OpD (zOf X) r m) (ha : DE X W a f) (hb : DE X W b g) (hs' : PlainIx b := by exact fun _ _ => rfl) : DE X W (.Subscript a b pos) (gOp m f g) := by
  refine PEmono (pe_ix ho ha hb hs') fun σ H Q h => ?_
  obtain ⟨β, ρ, st, hρ, hs, h⟩ := h
  refine tD_intro hρ hs (Out.sat_bind h) (fun d s1 h1 v β1 H1 e1 S1 r1 => ?_) fun _ _ q => q
  refine tD_intro (hρ.ext e1) S1 (Out.sat_bind h1) (fun d2 s2 h2 v2 β2 H2 e2 S2 r2 => ?_) fun _ _ q => q.ext e1
  obtain ⟨d3, q, p⟩ := oout_sat h2
  exact hm β2 H2 s2 v v2 d d2 d3 Q (Rep.ext e2 _ _ r1) r2 S2 q fun w' H' s' r' => p w' β2 H' ((e1.trans e2).trans (Ext.same s')) (S2.same s') r'
theorem de_un {op : UnaryOp} {r : V → Hp → VK → Prop} {m : D → Sto → Option D} (ho : UnR X (unaryOp op) r) (hm : UnD (zOf X) r m) (ha : DE X W a f) : DE X W (.UnaryOp op a pos) (gUn m f) := by
  refine PEmono (pe_un ho ha) fun σ H Q h => ?_
  obtain ⟨β, ρ, st, hρ, hs, h⟩ := h
  refine tD_intro hρ hs (Out.sat_bind h) (fun d s1 h1 v β1 H1 e1 S1 r1 => ?_) fun _ _ q => q
  obtain ⟨d3, q, p⟩ := oout_sat h1
  exact hm β1 H1 s1 v d d3 Q r1 S1 q fun w' H' s' r' => p w' β1 H' (e1.trans (Ext.same s')) (S1.same s') r'
theorem da_nil : DA X W [] aNil := by
  refine PAmono pa_nil fun σ H Q h => ?_
  obtain ⟨β, ρ, st, hρ, hs, h⟩ := h
  exact h [] β H (Ext.refl β H) hs .nil
theorem da_cons (ha : DE X W e f) (hr : DA X W es fs) (hs : starEach (e :: es) X.env = (false, eval e X.env) :: starEach es X.env := by rfl) : DA X W (e :: es) (aCons f fs) := by
  refine PAmono (pa_cons ha hr hs) fun σ H Q h => ?_
  obtain ⟨β, ρ, st, hρ, hs, h⟩ := h
  refine tD_intro hρ hs (Out.sat_bind h) (fun d s1 h1 v β1 H1 e1 S1 r1 => ?_) fun _ _ q => q
  refine tDA_intro (hρ.ext e1) S1 (Out.sat_bind h1) (fun d2 s2 h2 v2 β2 H2 e2 S2 r2 => ?_) fun _ _ q => q.ext e1
  exact h2 (v :: v2) β2 H2 (e1.trans e2) S2 (.cons (Rep.ext e2 _ _ r1) r2)
theorem de_callB {x : Str} {p : Pos} {id : String} {r : List V → Hp → VK → Prop} {m : List D → Sto → Option D} (hc : CallR X (.builtin id) r) (hm : CallD (zOf X) r m) (hg : Gl X x) (hmg : X.mg x = none) (hv : bootBuiltins x = some (.builtin id)) (ha : DA X W (e :: es) fs) (hn : x ≠ "__name__" := by decide) (hdb : (x == ("__debug__" : Str)) = false := by decide)
    (he : starEach (e :: es) X.env = (false, eval e X.env) :: starEach es X.env := by rfl) (hpl : (backTo pos (starEach es X.env)).any (·.1) = false := by rfl) : DE X W (.Call (.Name x p) (e :: es) [] pos) (gCB m fs) := by
  refine PEmono (pe_callB hc hg hmg hv ha hn hdb he hpl) fun σ H Q h => ?_
  obtain ⟨β, ρ, st, hρ, hs, h⟩ := h
  refine tDA_intro hρ hs (Out.sat_bind h) (fun d s1 h1 v β1 H1 e1 S1 r1 => ?_) fun _ _ q => q
  obtain ⟨d3, q, p⟩ := oout_sat h1
  exact hm β1 H1 s1 v d d3 Q r1 S1 q fun w' H' s' r' => p w' β1 H' (e1.trans (Ext.same s')) (S1.same s') r'
theorem de_callTy {x : Str} {p : Pos} {T : String} {r : List V → Hp → VK → Prop} {m : List D → Sto → Option D} (hc : CallR X (.type T) r) (hm : CallD (zOf X) r m) (hg : Gl X x) (hmg : X.mg x = none) (hv : bootBuiltins x = some (.type T)) (ha : DA X W (e :: es) fs) (hn : x ≠ "__name__" := by decide) (hdb : (x == ("__debug__" : Str)) = false := by decide)
    (he : starEach (e :: es) X.env = (false, eval e X.env) :: starEach es X.env := by rfl) (hpl : (backTo pos (starEach es X.env)).any (·.1) = false := by rfl) : DE X W (.Call (.Name x p) (e :: es) [] pos) (gCB m fs) := by
  refine PEmono (pe_callTy hc hg hmg hv ha hn hdb he hpl) fun σ H Q h => ?_
  obtain ⟨β, ρ, st, hρ, hs, h⟩ := h
  refine tDA_intro hρ hs (Out.sat_bind h) (fun d s1 h1 v β1 H1 e1 S1 r1 => ?_) fun _ _ q => q
  obtain ⟨d3, q, p⟩ := oout_sat h1
  exact hm β1 H1 s1 v d d3 Q r1 S1 q fun w' H' s' r' => p w' β1 H' (e1.trans (Ext.same s')) (S1.same s') r'

/-! ### displays: tuples, lists that are never written, lists that are -/
def gTupD (f : G (List D)) : G D := fun ρ st => (f ρ st).bind fun ds s1 => if ds.length ≤ 1000 then .ok (.tup ds) s1 else .bad
def gLstD (f : G (List D)) : G D := fun ρ st => (f ρ st).bind fun ds s1 => if ds.length ≤ 1000 then .ok (.lst ds) s1 else .bad
def gLstM (f : G (List D)) : G D := fun ρ st => (f ρ st).bind fun ds s1 => if ds.length ≤ 1000 then .ok (.ref s1.length) (s1 ++ [.lst ds]) else .bad
theorem le1000 {n : Nat} (h : n ≤ 1000) : n ≤ sizeLine := Nat.le_of_lt (small1000 h)
theorem de_tup {x1} (h : DA X W es fs) : DE X W (.Tuple es x1 pos) (gTupD fs) := by
  refine PEmono (pe_tup h) fun σ H Q h => ?_
  obtain ⟨β, ρ, st, hρ, hs, h⟩ := h
  refine tDA_intro hρ hs (Out.sat_bind h) (fun d s1 h1 v β1 H1 e1 S1 r1 => ?_) fun _ _ q => q
  split at h1
  · rename_i hz
    have hl := r1.length
    refine ⟨by rw [hl]; exact le1000 hz, fun p hp => ?_⟩
    exact h1 (.ref p) β1 _ (e1.trans (Ext.new hp)) (S1.fresh hp) (.tup (.inl (.inl upd_same)) (Reps.ext (Ext.new hp) _ _ r1) (le1000 hz))
  · exact h1.elim
theorem de_lst (h : DA X W es fs) : DE X W (.List es pos) (gLstD fs) := by
  refine PEmono (pe_lst h) fun σ H Q h => ?_
  obtain ⟨β, ρ, st, hρ, hs, h⟩ := h
  refine tDA_intro hρ hs (Out.sat_bind h) (fun d s1 h1 v β1 H1 e1 S1 r1 => ?_) fun _ _ q => q
  split at h1
  · rename_i hz
    have hl := r1.length
    refine ⟨by rw [hl]; exact le1000 hz, fun p hp => ?_⟩
    exact h1 (.ref p) β1 _ (e1.trans (Ext.new hp)) (S1.fresh hp) (.lst upd_same (S1.nmem hp) (Reps.ext (Ext.new hp) _ _ r1) (le1000 hz))
  · exact h1.elim
/-- a new written thing at p -/
def Bx.add (β : Bx) (p : Addr) : Bx := ⟨β.lo ++ [p], β.pv⟩
theorem Ext.grow {β : Bx} {H : Hp} {p : Addr} {o : HO} (hp : H p = none) : Ext β H (β.add p) (upd H p o) :=
  ⟨⟨[p], rfl, fun q hq => by rw [List.mem_singleton.mp hq]; exact Free.none hp⟩, rfl, fun b u _ h _ => same_new hp _ _ h, fun _ _ h => same_new hp _ _ h, fun _ _ _ h => same_new hp _ _ h, fun _ u h n => ⟨u, same_new hp _ _ h, n⟩, fun _ _ h => same_new hp _ _ h⟩
theorem StoOk.grow {K : Zx} {β : Bx} {H : Hp} {st : Sto} {p : Addr} {o : HO} {so : SO} (S : StoOk K β H st) (hp : H p = none) (r : SORel K (β.add p) (upd H p o) p so) : StoOk K (β.add p) (upd H p o) (st ++ [so]) := by
  have e := Ext.grow (β := β) (o := o) hp
  refine ⟨by simp [Bx.add, S.len], ?_, fun n a u h1 h2 => ?_, fun q hq => let ⟨u, hu, n⟩ := S.priv q hq; ⟨u, same_new hp _ _ hu, n⟩⟩
  · exact List.nodup_append.mpr ⟨S.nd, by simp, fun x hx y hy => by rw [List.mem_singleton.mp hy]; exact fun z => (S.nmem hp).1 (z ▸ hx)⟩
  · have h1 : (β.lo ++ [p])[n]? = Option.some a := h1
    by_cases hn : n < β.lo.length
    · rw [List.getElem?_append_left hn] at h1
      rw [List.getElem?_append_left (by rw [← S.len]; exact hn)] at h2
      have q := S.obj n a u h1 h2
      exact q.move e.mv fun _ z => same_new hp _ _ z
    · have hn' : n = β.lo.length := by
        have := (List.getElem?_eq_some_iff.mp h1).1
        simp at this
        omega
      subst hn'
      rw [List.getElem?_append_right (Nat.le_refl _)] at h1
      rw [S.len, List.getElem?_append_right (Nat.le_refl _)] at h2
      simp at h1 h2
      subst h1 h2
      exact r
theorem de_lstM (h : DA X W es fs) : DE X W (.List es pos) (gLstM fs) := by
  refine PEmono (pe_lst h) fun σ H Q h => ?_
  obtain ⟨β, ρ, st, hρ, hs, h⟩ := h
  refine tDA_intro hρ hs (Out.sat_bind h) (fun d s1 h1 v β1 H1 e1 S1 r1 => ?_) fun _ _ q => q
  split at h1
  · rename_i hz
    have hl := r1.length
    refine ⟨by rw [hl]; exact le1000 hz, fun p hp => ?_⟩
    refine h1 (.ref p) (β1.add p) _ (e1.trans (Ext.grow hp)) (S1.grow hp ⟨v, upd_same, Reps.ext (Ext.grow hp) _ _ r1⟩) (.ref ?_)
    rw [← S1.len]
    simp [Bx.add]
  · exact h1.elim
end
end DL

set_option Elab.async false
set_option linter.all false
set_option maxRecDepth 100000
set_option maxHeartbeats 2000000
namespace DL
open PySem PySem.Spec L2
open PyProof.Rows hiding St
abbrev LIM : Nat := 1000000
theorem leLIM {n : Nat} (h : n ≤ LIM) : n ≤ sizeLine := by rw [sizeLine_eq]; exact Nat.le_trans h (by decide)

/-! ### the operators by data -/
def mAdd : D → D → Sto → Option D
  | .int i, .int j, _ => some (.int (i + j))
  | .str x, .str y, _ => if x.length + y.length ≤ LIM then some (.str (x ++ y)) else none
  | .tup a, .tup b, _ => if a.length + b.length ≤ LIM then some (.tup (a ++ b)) else none
  | .lst a, .lst b, _ => if a.length + b.length ≤ LIM then some (.lst (a ++ b)) else none
  | _, _, _ => none
def mSub : D → D → Sto → Option D
  | .int i, .int j, _ => some (.int (i - j))
  | _, _, _ => none
def mMul : D → D → Sto → Option D
  | .int i, .int j, _ => if -(2 ^ 64) < j ∧ j < 2 ^ 64 then some (.int (i * j)) else none
  | .lst a, .int k, _ => if 0 ≤ k ∧ k ≤ 1000 ∧ a.length ≤ 1000 then some (.lst (List.replicate k.toNat a).flatten) else none
  | _, _, _ => none
def mMod : D → D → Sto → Option D
  | .int i, .int j, _ => if 0 < j then some (.int (i % j)) else none
  | _, _, _ => none
def mFdiv : D → D → Sto → Option D
  | .int i, .int j, _ => if 0 < j ∧ j < 1073741824 then some (.int (i / j)) else none
  | _, _, _ => none
def mPow : D → D → Sto → Option D
  | .int i, .int j, _ => if 0 ≤ j ∧ j ≤ 1000000 ∧ i.natAbs < 2 ^ 64 then some (.int (i ^ j.toNat)) else none
  | _, _, _ => none
def mLt : D → D → Sto → Option D
  | .int i, .int j, _ => some (.bl (decide (i < j)))
  | _, _, _ => none
def mLe : D → D → Sto → Option D
  | .int i, .int j, _ => some (.bl (decide (i ≤ j)))
  | _, _, _ => none
def mGt : D → D → Sto → Option D
  | .int i, .int j, _ => some (.bl (decide (j < i)))
  | _, _, _ => none
def mGe : D → D → Sto → Option D
  | .int i, .int j, _ => some (.bl (decide (j ≤ i)))
  | _, _, _ => none
def eqD (x y : D) : Bool := PyData.eqv x.py y.py
def okD (x : D) : Bool := SeqAt.shaped x.py
def mEq : D → D → Sto → Option D := fun x y _ => if okD x && okD y then some (.bl (eqD x y)) else none
def mNe : D → D → Sto → Option D := fun x y _ => if okD x && okD y then some (.bl (!eqD x y)) else none
def mIs : D → D → Sto → Option D
  | x, .non, _ => match x with
    | .raw _ => none
    | .non => some (.bl true)
    | _ => some (.bl false)
  | .bl a, .bl b, _ => some (.bl (decide (a = b)))
  | _, _, _ => none
def mIsNot : D → D → Sto → Option D
  | x, .non, _ => match x with
    | .raw _ => none
    | .non => some (.bl false)
    | _ => some (.bl true)
  | .bl a, .bl b, _ => some (.bl (!decide (a = b)))
  | _, _, _ => none
def inStr (x y : Str) : Bool := !(Builtin.Str.occurrences y x 0 y.length 1).isEmpty
def mIn (neg : Bool) : D → D → Sto → Option D
  | .str x, .str y, _ => some (.bl (if neg then !inStr x y else inStr x y))
  | x, .tup l, _ => if okD x && okD (.tup l) then some (.bl (if neg then !l.any fun z => eqD z x else l.any fun z => eqD z x)) else none
  | x, .lst l, _ => if okD x && okD (.lst l) then some (.bl (if neg then !l.any fun z => eqD z x else l.any fun z => eqD z x)) else none
  | x, .ro l, _ => if okD x && okD (.ro l) then some (.bl (if neg then !l.any fun z => eqD z x else l.any fun z => eqD z x)) else none
  | _, _, _ => none
theorem pys_map : ∀ l : List D, D.pys l = l.map D.py
  | [] => by simp [D.pys]
  | d :: l => by simp [D.pys, pys_map l]

section
variable {X : Cx} {K : Zx}
/-! #### + -/
abbrev rAddD (K : PySem.W.Frag) : R2 := fun x y H Q => rI0 (fun i j => .int (i + j)) x y H Q ∨ (fun x y H Q => (∃ i j, x = .str i ∧ y = .str j ∧ i.length + j.length ≤ sizeLine ∧ Q (.str (i ++ j)) H) ∨ (fun x y H Q => rCatA K x y H Q ∨ rCat x y H Q) x y H Q) x y H Q
theorem or_add : OpR X (binaryOp .Add) (rAddD X.K) := op_add.or (op_add_str.or (op_catA.or op_cat))
theorem od_add : OpD K (rAddD K) mAdd := by
  intro β H st x y dx dy d Q rx ry S e q
  cases dx <;> cases dy <;> simp only [mAdd, Option.some.injEq, reduceCtorEq] at e
  case int.int i j =>
    cases rx; cases ry; subst e
    exact .inl ⟨_, _, rfl, rfl, q _ _ (Same.refl H) (.int _)⟩
  case str.str a b =>
    cases rx; cases ry
    split at e
    · rename_i hz
      have e := Option.some.inj e
      subst e
      exact .inr (.inl ⟨_, _, rfl, rfl, leLIM hz, q _ _ (Same.refl H) (.str _)⟩)
    · cases e
  case tup.tup a b =>
    cases rx with
    | tup h1 h2 h3 =>
      cases ry with
      | tup g1 g2 g3 =>
        rename_i p xs p' ys
        split at e
        · rename_i hz
          have e := Option.some.inj e
          subst e
          have hl : xs.length + ys.length ≤ LIM := by rw [h2.length, g2.length]; exact hz
          refine .inr (.inr (.inl ⟨_, _, _, _, rfl, rfl, h1, g1, leLIM hl, fun e0 => ?_, fun e0 e1 => ?_, fun e0 e1 p hp => ?_⟩))
          · subst e0
            cases h2
            exact q _ _ (Same.refl H) (.tup g1 g2 g3)
          · subst e1
            cases g2
            simp only [List.append_nil] at q
            exact q _ _ (Same.refl H) (.tup h1 h2 h3)
          · exact q _ _ (same_new hp) (.tup (.inl (.inl upd_same)) (Reps.ext (Ext.new hp) _ _ (h2.append g2)) (by rw [List.length_append]; exact leLIM hz))
        · cases e
  case lst.lst a b =>
    cases rx with
    | lst h1 hn h2 h3 =>
      cases ry with
      | lst g1 gn g2 g3 =>
        rename_i p xs p' ys
        split at e
        · rename_i hz
          have e := Option.some.inj e
          subst e
          have hl : xs.length + ys.length ≤ LIM := by rw [h2.length, g2.length]; exact hz
          refine .inr (.inr (.inr ⟨_, _, _, _, rfl, rfl, h1, g1, leLIM hl, fun p hp => ?_⟩))
          exact q _ _ (same_new hp) (.lst upd_same (S.nmem hp) (Reps.ext (Ext.new hp) _ _ (h2.append g2)) (by rw [List.length_append]; exact leLIM hz))
        · cases e
/-! #### ints -/
theorem od_sub : OpD K (rI0 fun i j => .int (i - j)) mSub := by
  intro β H st x y dx dy d Q rx ry S e q
  cases dx <;> cases dy <;> simp only [mSub, Option.some.injEq, reduceCtorEq] at e
  cases rx; cases ry; subst e
  exact ⟨_, _, rfl, rfl, q _ _ (Same.refl H) (.int _)⟩
theorem od_mod : OpD K (rI (fun _ j => 0 < j) fun i j => .int (i % j)) mMod := by
  intro β H st x y dx dy d Q rx ry S e q
  cases dx <;> cases dy <;> simp only [mMod, Option.some.injEq, reduceCtorEq] at e
  split at e
  · rename_i hz
    have e := Option.some.inj e
    cases rx; cases ry; subst e
    exact ⟨_, _, rfl, rfl, hz, q _ _ (Same.refl H) (.int _)⟩
  · cases e
theorem od_fdiv : OpD K (rI CDiv fun i j => .int (i / j)) mFdiv := by
  intro β H st x y dx dy d Q rx ry S e q
  cases dx <;> cases dy <;> simp only [mFdiv, Option.some.injEq, reduceCtorEq] at e
  split at e
  · rename_i hz
    have e := Option.some.inj e
    cases rx; cases ry; subst e
    exact ⟨_, _, rfl, rfl, hz, q _ _ (Same.refl H) (.int _)⟩
  · cases e
theorem od_pow : OpD K (rI CPow fun i j => .int (i ^ j.toNat)) mPow := by
  intro β H st x y dx dy d Q rx ry S e q
  cases dx <;> cases dy <;> simp only [mPow, Option.some.injEq, reduceCtorEq] at e
  split at e
  · rename_i hz
    have e := Option.some.inj e
    cases rx; cases ry; subst e
    exact ⟨_, _, rfl, rfl, hz, q _ _ (Same.refl H) (.int _)⟩
  · cases e
abbrev rMulD : R2 := fun x y H Q => rI CMul (fun i j => .int (i * j)) x y H Q ∨ rRep x y H Q
theorem or_mul : OpR X (binaryOp .Mult) rMulD := op_mul.or op_rep
theorem lt_od {r : R2} {m : D → D → Sto → Option D} {p : Int → Int → Bool} (hm : ∀ x y st d, m x y st = some d → ∃ i j, x = .int i ∧ y = .int j ∧ d = .bl (p i j)) : OpD K (rI0 fun i j => .bl (p i j)) m := by
  intro β H st x y dx dy d Q rx ry S e q
  obtain ⟨i, j, rfl, rfl, rfl⟩ := hm _ _ _ _ e
  cases rx; cases ry
  exact ⟨_, _, rfl, rfl, q _ _ (Same.refl H) (.bl _)⟩
theorem od_lt : OpD K (rI0 fun i j => .bl (decide (i < j))) mLt := lt_od (r := rI0 fun i j => .bl (decide (i < j))) fun x y st d e => by
  cases x <;> cases y <;> simp only [mLt, Option.some.injEq, reduceCtorEq] at e
  exact ⟨_, _, rfl, rfl, e.symm⟩
theorem od_le : OpD K (rI0 fun i j => .bl (decide (i ≤ j))) mLe := lt_od (r := rI0 fun i j => .bl (decide (i ≤ j))) fun x y st d e => by
  cases x <;> cases y <;> simp only [mLe, Option.some.injEq, reduceCtorEq] at e
  exact ⟨_, _, rfl, rfl, e.symm⟩
theorem od_gt : OpD K (rI0 fun i j => .bl (decide (j < i))) mGt := lt_od (r := rI0 fun i j => .bl (decide (j < i))) fun x y st d e => by
  cases x <;> cases y <;> simp only [mGt, Option.some.injEq, reduceCtorEq] at e
  exact ⟨_, _, rfl, rfl, e.symm⟩
theorem od_ge : OpD K (rI0 fun i j => .bl (decide (j ≤ i))) mGe := lt_od (r := rI0 fun i j => .bl (decide (j ≤ i))) fun x y st d e => by
  cases x <;> cases y <;> simp only [mGe, Option.some.injEq, reduceCtorEq] at e
  exact ⟨_, _, rfl, rfl, e.symm⟩
theorem canLay_of_ok {x : D} (h : okD x = true) : x.py.canLay0 = true := SeqAt.canLay_of_shaped h
theorem od_eq : OpD K (rEqD K) mEq := by
  intro β H st x y dx dy d Q rx ry S e q
  unfold mEq at e
  split at e
  · rename_i hz
    have e := Option.some.inj e
    subst e
    rw [Bool.and_eq_true] at hz
    exact ⟨dx.py, dy.py, Rep.dp _ _ (canLay_of_ok hz.1) rx, Rep.dp _ _ (canLay_of_ok hz.2) ry, hz.1, hz.2, q _ _ (Same.refl H) (.bl _)⟩
  · cases e
theorem od_ne : OpD K (rNeD K) mNe := by
  intro β H st x y dx dy d Q rx ry S e q
  unfold mNe at e
  split at e
  · rename_i hz
    have e := Option.some.inj e
    subst e
    rw [Bool.and_eq_true] at hz
    exact ⟨dx.py, dy.py, Rep.dp _ _ (canLay_of_ok hz.1) rx, Rep.dp _ _ (canLay_of_ok hz.2) ry, hz.1, hz.2, q _ _ (Same.refl H) (.bl _)⟩
  · cases e
/-! #### is -/
def notNon : V → Bool
  | .non => false
  | _ => true
abbrev rIsD : R2 := fun x y H Q => (y = .non ∧ Q (.bl (decide (x = .non))) H) ∨ rIsB x y H Q
abbrev rIsND : R2 := fun x y H Q => (y = .non ∧ Q (.bl (!decide (x = .non))) H) ∨ rNotB x y H Q
theorem or_is : OpR X (compareOp .Is) rIsD := op_isN.or op_isBl
theorem or_isnot : OpR X (compareOp .IsNot) rIsND := op_notN.or op_notBl
theorem od_is : OpD K rIsD mIs := by
  intro β H st x y dx dy d Q rx ry S e q
  cases dy with
  | non =>
    cases ry
    cases dx <;> simp only [mIs, Option.some.injEq, reduceCtorEq] at e
    all_goals (subst e; cases rx; exact .inl ⟨rfl, q _ _ (Same.refl H) (.bl _)⟩)
  | bl b =>
    cases dx <;> simp only [mIs, Option.some.injEq, reduceCtorEq] at e
    cases rx; cases ry
    subst e
    exact .inr ⟨_, _, rfl, rfl, q _ _ (Same.refl H) (.bl _)⟩
  | _ => cases dx <;> simp only [mIs, reduceCtorEq] at e
theorem od_isnot : OpD K rIsND mIsNot := by
  intro β H st x y dx dy d Q rx ry S e q
  cases dy with
  | non =>
    cases ry
    cases dx <;> simp only [mIsNot, Option.some.injEq, reduceCtorEq] at e
    all_goals (subst e; cases rx; exact .inl ⟨rfl, q _ _ (Same.refl H) (.bl _)⟩)
  | bl b =>
    cases dx <;> simp only [mIsNot, Option.some.injEq, reduceCtorEq] at e
    cases rx; cases ry
    subst e
    exact .inr ⟨_, _, rfl, rfl, q _ _ (Same.refl H) (.bl _)⟩
  | _ => cases dx <;> simp only [mIsNot, reduceCtorEq] at e
/-! #### in -/
def rInTD (K : PySem.W.Frag) (neg : Bool) : R2 := fun x y H Q => ∃ d ds, Dp K H x d ∧ Dp K H y (.tuple ds) ∧ SeqAt.shaped d = true ∧ SeqAt.shaped (.tuple ds) = true ∧ Q (.bl (if neg then !ds.any fun z => PyData.eqv z d else ds.any fun z => PyData.eqv z d)) H
theorem room_in_tup {A : Around} {xs : List PyData} {d : PyData} (h : SeqAt.shaped d = true) (hu : A.units + 65 < cLine) : A.units + 1 + min (PyData.depthAll xs) d.depth < cLine := by
  have h1 := SeqAt.depth_of_shaped h
  have h2 : min (PyData.depthAll xs) d.depth ≤ d.depth := Nat.min_le_right _ _
  omega
theorem op_inTD (hu : X.A.units + 65 < cLine) : OpR X (compareOp .In) (rInTD X.K false) := by
  intro pins s σ H x y v u Q I rx ry h
  obtain ⟨d, ds, hd, he, sd, se, q⟩ := h
  obtain ⟨as, r1⟩ := Dp.reads I d x v hd rx
  obtain ⟨bs, r2⟩ := Dp.reads I (.tuple ds) y u he ry
  exact SeqAt.in_tuple_reads r2 r1 (SeqAt.canLay_of_shaped se) (SeqAt.canLay_of_shaped sd) (room_in_tup sd hu) ⟨.bl _, H, I, rfl, q⟩
theorem op_notInTD (hu : X.A.units + 65 < cLine) : OpR X (compareOp .NotIn) (rInTD X.K true) := by
  intro pins s σ H x y v u Q I rx ry h
  obtain ⟨d, ds, hd, he, sd, se, q⟩ := h
  obtain ⟨as, r1⟩ := Dp.reads I d x v hd rx
  obtain ⟨bs, r2⟩ := Dp.reads I (.tuple ds) y u he ry
  exact SeqAt.notIn_tuple_reads r2 r1 (SeqAt.canLay_of_shaped se) (SeqAt.canLay_of_shaped sd) (room_in_tup sd hu) ⟨.bl _, H, I, rfl, q⟩
abbrev rInDD (K : PySem.W.Frag) (neg : Bool) : R2 := fun x y H Q => (∃ i j, x = .str i ∧ y = .str j ∧ Q (.bl (if neg then !inStr i j else inStr i j)) H) ∨ (fun x y H Q => rInTD K neg x y H Q ∨
  (∃ d ds, Dp K H x d ∧ Dp K H y (.list ds) ∧ SeqAt.shaped d = true ∧ SeqAt.shaped (.list ds) = true ∧ Q (.bl (if neg then !ds.any fun z => PyData.eqv z d else ds.any fun z => PyData.eqv z d)) H)) x y H Q
theorem or_in (hu : X.A.units + 65 < cLine) : OpR X (compareOp .In) (rInDD X.K false) := op_in_str.or ((op_inTD hu).or (op_inD hu))
theorem or_notin (hu : X.A.units + 65 < cLine) : OpR X (compareOp .NotIn) (rInDD X.K true) := op_notin_str.or ((op_notInTD hu).or (op_notInD hu))
theorem any_py (l : List D) (x : D) : (D.pys l).any (fun z => PyData.eqv z x.py) = l.any fun z => eqD z x := by
  rw [pys_map, List.any_map]
  rfl
theorem od_in (neg : Bool) : OpD K (rInDD K neg) (mIn neg) := by
  intro β H st x y dx dy d Q rx ry S e q
  have seq : ∀ (l : List D) (c : PyData), c = .tuple (D.pys l) ∨ c = .list (D.pys l) → Dp K H y c → SeqAt.shaped c = true → okD dx = true → d = .bl (if neg then !l.any fun z => eqD z dx else l.any fun z => eqD z dx) → rInDD K neg x y H Q := fun l c hc hy ho hx ed => by
    subst ed
    rcases hc with rfl | rfl
    · exact .inr (.inl ⟨dx.py, D.pys l, Rep.dp _ _ (canLay_of_ok hx) rx, hy, hx, ho, by rw [any_py]; exact q _ _ (Same.refl H) (.bl _)⟩)
    · exact .inr (.inr ⟨dx.py, D.pys l, Rep.dp _ _ (canLay_of_ok hx) rx, hy, hx, ho, by rw [any_py]; exact q _ _ (Same.refl H) (.bl _)⟩)
  cases dy with
  | str b =>
    cases dx <;> simp only [mIn, Option.some.injEq, reduceCtorEq] at e
    cases rx; cases ry; subst e
    exact .inl ⟨_, _, rfl, rfl, q _ _ (Same.refl H) (.bl _)⟩
  | tup l =>
    have e : (if okD dx && okD (.tup l) then some (D.bl (if neg then !l.any fun z => eqD z dx else l.any fun z => eqD z dx)) else none) = some d := by
      cases dx <;> exact e
    split at e
    · rename_i hz
      rw [Bool.and_eq_true] at hz
      have c := Rep.dp _ _ (canLay_of_ok hz.2) ry
      simp only [D.py] at c
      have o2 := hz.2
      simp only [okD, D.py] at o2
      exact seq l _ (.inl rfl) c o2 hz.1 (Option.some.inj e).symm
    · cases e
  | lst l =>
    have e : (if okD dx && okD (.lst l) then some (D.bl (if neg then !l.any fun z => eqD z dx else l.any fun z => eqD z dx)) else none) = some d := by
      cases dx <;> exact e
    split at e
    · rename_i hz
      rw [Bool.and_eq_true] at hz
      have c := Rep.dp _ _ (canLay_of_ok hz.2) ry
      simp only [D.py] at c
      have o2 := hz.2
      simp only [okD, D.py] at o2
      exact seq l _ (.inr rfl) c o2 hz.1 (Option.some.inj e).symm
    · cases e
  | ro l =>
    have e : (if okD dx && okD (.ro l) then some (D.bl (if neg then !l.any fun z => eqD z dx else l.any fun z => eqD z dx)) else none) = some d := by
      cases dx <;> exact e
    split at e
    · rename_i hz
      rw [Bool.and_eq_true] at hz
      have c := Rep.dp _ _ (canLay_of_ok hz.2) ry
      simp only [D.py] at c
      have o2 := hz.2
      simp only [okD, D.py] at o2
      exact seq l _ (.inr rfl) c o2 hz.1 (Option.some.inj e).symm
    · cases e
  | _ => cases dx <;> simp only [mIn, reduceCtorEq] at e
end
end DL

set_option Elab.async false
set_option linter.all false
set_option maxRecDepth 100000
set_option maxHeartbeats 2000000
namespace DL
open PySem PySem.Spec L2
open PyProof.Rows hiding St

theorem reps_flatten {K : Zx} {β : Bx} {H : Hp} {xs : List V} {ds : List D} (r : Reps K β H xs ds) : ∀ k : Nat, Reps K β H (List.replicate k xs).flatten (List.replicate k ds).flatten
  | 0 => .nil
  | k + 1 => by
    rw [List.replicate_succ, List.replicate_succ, List.flatten_cons, List.flatten_cons]
    exact r.append (reps_flatten r k)
theorem len_flatten {α : Type} (xs : List α) : ∀ k : Nat, (List.replicate k xs).flatten.length = xs.length * k
  | 0 => by simp
  | k + 1 => by rw [List.replicate_succ, List.flatten_cons, List.length_append, len_flatten xs k, Nat.mul_succ, Nat.add_comm]
theorem od_mul {K : Zx} : OpD K rMulD mMul := by
  intro β H st x y dx dy d Q rx ry S e q
  cases dx <;> cases dy <;> simp only [mMul, Option.some.injEq, reduceCtorEq] at e
  case int.int i j =>
    split at e
    · rename_i hz
      have e := Option.some.inj e
      cases rx; cases ry; subst e
      exact .inl ⟨_, _, rfl, rfl, .inr hz, q _ _ (Same.refl H) (.int _)⟩
    · cases e
  case lst.int a k =>
    split at e
    · rename_i hz
      have e := Option.some.inj e
      cases ry; subst e
      cases rx with
      | lst h1 hn h2 h3 =>
        rename_i p xs
        have hl := h2.length
        have hk : k.toNat ≤ 1000 := by omega
        have hm : a.length * k.toNat ≤ 1000 * 1000 := Nat.mul_le_mul hz.2.2 hk
        refine .inr ⟨_, _, xs, rfl, rfl, h1, by omega, by omega, by rw [hl]; exact leLIM hm, fun p hp => ?_⟩
        exact q _ _ (same_new hp) (.lst upd_same (S.nmem hp) (Reps.ext (Ext.new hp) _ _ (reps_flatten h2 _)) (by rw [len_flatten]; exact leLIM hm))
    · cases e

/-! ### truth -/
def mTru : D → Sto → Option Bool
  | .non, _ => some false
  | .bl b, _ => some b
  | .int i, _ => some (i != 0)
  | .str x, _ => if x.length ≤ LIM then some ((x.length : Int) != 0) else none
  | .tup l, _ => some (!l.isEmpty)
  | .lst l, _ => some (!l.isEmpty)
  | .ro l, _ => some (!l.isEmpty)
  | .ref n, st => match st[n]? with
    | some (.lst l) => some (!l.isEmpty)
    | some (.dK l) => some (!l.isEmpty)
    | some (.tab _ _) => none
    | some (.dN _) => none
    | some (.ins _ _) => none
    | some .lock => none
    | none => none
  | .raw _, _ => none
  | .clo _ _, _ => none
theorem Reps.empty {K : Zx} {β : Bx} {H : Hp} {vs : List V} {ds : List D} (h : Reps K β H vs ds) : (!ds.isEmpty) = !vs.isEmpty := by cases h <;> rfl
theorem tru_d {K : Zx} {β : Bx} {H : Hp} {st : Sto} {x : V} {d : D} {b : Bool} (r : Rep K β H x d) (S : StoOk K β H st) (e : mTru d st = some b) : TruV K x H b := by
  cases d with
  | non => cases r; exact (Option.some.inj e).symm
  | bl c => cases r; exact (Option.some.inj e).symm
  | int i => cases r; exact (Option.some.inj e).symm
  | str y =>
    cases r
    simp only [mTru] at e
    split at e
    · rename_i hz
      exact ⟨leLIM hz, (Option.some.inj e).symm⟩
    · cases e
  | tup l => cases r with | tup h1 h2 h3 => exact .inr (.inl ⟨_, h1, (Option.some.inj e).symm.trans h2.empty⟩)
  | lst l => cases r with | lst h1 hn h2 h3 => exact .inl ⟨_, SqL.of h1, (Option.some.inj e).symm.trans h2.empty⟩
  | ro l => cases r with | ro h1 h2 h3 => exact .inl ⟨_, h1.sqL, (Option.some.inj e).symm.trans h2.empty⟩
  | ref n =>
    cases r with
    | ref hm =>
      obtain ⟨o, ho, rel⟩ := S.get hm
      simp only [mTru, ho] at e
      cases o with
      | lst l =>
        obtain ⟨xs, h, r⟩ := rel
        exact .inl ⟨_, SqL.of h, (Option.some.inj e).symm.trans r.empty⟩
      | dK l =>
        obtain ⟨vs, h, hl, _⟩ := rel
        refine .inr (.inr ⟨vs, h, (Option.some.inj e).symm.trans ?_⟩)
        cases vs <;> cases l <;> simp_all
      | tab _ _ => cases e
      | dN _ => cases e
      | ins _ _ => cases e
      | lock => cases e
  | raw v => cases e
  | clo _ _ => cases e
section
variable {X : Cx} {W : WX} {pos : Pos} {a b c e : Expr} {rest es : List Expr} {f g : G D} {t u : G Bool} {fs : G (List D)}
def gAnd (f g : G D) : G D := fun ρ st => (f ρ st).bind fun d s1 => (oout (mTru d s1) s1).bind fun k s1 => if k then g ρ s1 else .ok d s1
def gOr (f g : G D) : G D := fun ρ st => (f ρ st).bind fun d s1 => (oout (mTru d s1) s1).bind fun k s1 => if k then .ok d s1 else g ρ s1
def gNot (f : G D) : G D := fun ρ st => (f ρ st).bind fun d s1 => (oout (mTru d s1) s1).bind fun k s1 => .ok (.bl !k) s1
def gTr (f : G D) : G Bool := fun ρ st => (f ρ st).bind fun d s1 => oout (mTru d s1) s1
def gIf (t : G Bool) (f g : G D) : G D := fun ρ st => (t ρ st).bind fun k s1 => if k then f ρ s1 else g ρ s1
def gTNot (t : G Bool) : G Bool := fun ρ st => (t ρ st).bind fun k s1 => .ok (!k) s1
def gTAnd (t u : G Bool) : G Bool := fun ρ st => (t ρ st).bind fun k s1 => if k then u ρ s1 else .ok false s1
def gTOr (t u : G Bool) : G Bool := fun ρ st => (t ρ st).bind fun k s1 => if k then .ok true s1 else u ρ s1
theorem de_one {op} (h : DE X W a f) : DE X W (.BoolOp op [a] pos) f := pe_one h
theorem de_and (ha : DE X W a f) (hb : DE X W (.BoolOp .And (b :: rest) pos) g) : DE X W (.BoolOp .And (a :: b :: rest) pos) (gAnd f g) := by
  refine PEmono (pe_andT ha hb) fun σ H Q h => ?_
  obtain ⟨β, ρ, st, hρ, hs, h⟩ := h
  refine tD_intro hρ hs (Out.sat_bind h) (fun d s1 h1 v β1 H1 e1 S1 r1 => ?_) fun _ _ q => q
  obtain ⟨k, q, p⟩ := oout_sat (Out.sat_bind h1)
  refine ⟨k, tru_d r1 S1 q, ?_⟩
  cases k with
  | true => exact ⟨β1, ρ, s1, hρ.ext e1, S1, Out.sat.mono p (fun _ _ z => z.ext e1) fun _ _ z => z.ext e1⟩
  | false => exact p v β1 H1 e1 S1 r1
theorem de_or (ha : DE X W a f) (hb : DE X W (.BoolOp .Or (b :: rest) pos) g) : DE X W (.BoolOp .Or (a :: b :: rest) pos) (gOr f g) := by
  refine PEmono (pe_orT ha hb) fun σ H Q h => ?_
  obtain ⟨β, ρ, st, hρ, hs, h⟩ := h
  refine tD_intro hρ hs (Out.sat_bind h) (fun d s1 h1 v β1 H1 e1 S1 r1 => ?_) fun _ _ q => q
  obtain ⟨k, q, p⟩ := oout_sat (Out.sat_bind h1)
  refine ⟨k, tru_d r1 S1 q, ?_⟩
  cases k with
  | false => exact ⟨β1, ρ, s1, hρ.ext e1, S1, Out.sat.mono p (fun _ _ z => z.ext e1) fun _ _ z => z.ext e1⟩
  | true => exact p v β1 H1 e1 S1 r1
theorem de_not (ha : DE X W a f) : DE X W (.UnaryOp .Not a pos) (gNot f) := by
  refine PEmono (pe_notT ha) fun σ H Q h => ?_
  obtain ⟨β, ρ, st, hρ, hs, h⟩ := h
  refine tD_intro hρ hs (Out.sat_bind h) (fun d s1 h1 v β1 H1 e1 S1 r1 => ?_) fun _ _ q => q
  obtain ⟨k, q, p⟩ := oout_sat (Out.sat_bind h1)
  exact ⟨k, tru_d r1 S1 q, p (.bl !k) β1 H1 e1 S1 (.bl _)⟩
/-- a test that is its value's truth: a name, a call, a subscript .. (he by fun _ => rfl) -/
theorem dt_tr (ha : DE X W a f) (he : ∀ whole, isTrue a X.env whole = (do let v ← whole; standAt a.pos; holding [v] (truthy v)) := by exact fun _ => rfl) : DT X W a (gTr f) := by
  refine PTmono (pt_truth ha he) fun σ H Q h => ?_
  obtain ⟨β, ρ, st, hρ, hs, h⟩ := h
  refine tD_intro hρ hs (Out.sat_bind h) (fun d s1 h1 v β1 H1 e1 S1 r1 => ?_) fun _ _ q => q
  obtain ⟨k, q, p⟩ := oout_sat h1
  exact ⟨k, tru_d r1 S1 q, p β1 H1 e1 S1⟩
def gBl (f : G D) : G Bool := fun ρ st => (f ρ st).bind fun d s1 => match d with
  | .bl k => .ok k s1
  | _ => .bad
theorem gBl_sat {d : D} {s1 : Sto} {P : Bool → Sto → Prop} {E : Exn → Sto → Prop} (h : (match d with | .bl k => Out.ok k s1 | _ => .bad : Out Bool).sat P E) : ∃ k, d = .bl k ∧ P k s1 := by
  cases d <;> first | exact h.elim | exact ⟨_, rfl, h⟩
theorem dt_cmp {op : CmpOp} {r : R2} {m : D → D → Sto → Option D} (ho : OpR X (compareOp op) r) (hm : OpD (zOf X) r m) (ha : DE X W a f) (hb : DE X W b g) (hb' : behindInMarks op b = false := by rfl) : DT X W (.Compare a [op] [b] pos) (gBl (gOp m f g)) := by
  refine PTmono (pt_cmpR ho ha hb hb') fun σ H Q h => ?_
  obtain ⟨β, ρ, st, hρ, hs, h⟩ := h
  have h := Out.sat_bind h
  unfold gOp at h
  refine tD_intro hρ hs (Out.sat_bind h) (fun d s1 h1 v β1 H1 e1 S1 r1 => ?_) fun _ _ q => q
  refine tD_intro (hρ.ext e1) S1 (Out.sat_bind h1) (fun d2 s2 h2 v2 β2 H2 e2 S2 r2 => ?_) fun _ _ q => q.ext e1
  obtain ⟨d3, q, p⟩ := oout_sat h2
  obtain ⟨k, e3, p⟩ := gBl_sat p
  subst e3
  refine hm β2 H2 s2 v v2 d d2 _ _ (Rep.ext e2 _ _ r1) r2 S2 q fun w' H' s' r' => ?_
  cases r'
  exact ⟨k, rfl, p β2 H' ((e1.trans e2).trans (Ext.same s')) (S2.same s')⟩
/-- a < b < c, as a value and as a test -/
def gChain (m m' : D → D → Sto → Option D) (f g h : G D) : G Bool := fun ρ st => (f ρ st).bind fun d s1 => (g ρ s1).bind fun e s2 => (oout (m d e s2) s2).bind fun k s2 => match k with
  | .bl true => (h ρ s2).bind fun e' s3 => (oout (m' e e' s3) s3).bind fun k' s3 => match k' with
    | .bl k => .ok k s3
    | _ => .bad
  | .bl false => .ok false s2
  | _ => .bad
def gB (t : G Bool) : G D := fun ρ st => (t ρ st).bind fun k s1 => .ok (.bl k) s1
theorem chain_core {K : Zx} {mg : Str → Option Value} {σ : L2.St} {H : Hp} {r r' : R2} {m m' : D → D → Sto → Option D} {h : G D} {P : Bool → Sto → Prop} {E : Exn → Sto → Prop} (hm : OpD K r m) (hm' : OpD K r' m') {β : Bx} {ρ : Env} {st : Sto} (hρ : RepEnv K β H σ ρ) (hs : StoOk K β H st)
    (hh : (gChain m m' f g h ρ st).sat P E) {R : V → Hp → Prop} (hP : ∀ k s1, P k s1 → ∀ β' H', Ext β H β' H' → StoOk K β' H' s1 → R (.bl k) H') (hE : ∀ x s1, E x s1 → PostX K mg (fun c d H' => W c d σ H') β H x s1) :
    tChain r r' (tD K mg W f) (tD K mg W g) (tD K mg W h) σ H R := by
  unfold gChain at hh
  refine tD_intro hρ hs (Out.sat_bind hh) (fun d s1 h1 v β1 H1 e1 S1 r1 => ?_) hE
  refine tD_intro (hρ.ext e1) S1 (Out.sat_bind h1) (fun d2 s2 h2 v2 β2 H2 e2 S2 r2 => ?_) fun x s q => (hE x s q).ext e1
  obtain ⟨d3, q, p⟩ := oout_sat (Out.sat_bind h2)
  refine hm β2 H2 s2 v v2 d d2 _ _ (Rep.ext e2 _ _ r1) r2 S2 q fun w' H' s' r' => ?_
  have e12 := (e1.trans e2).trans (Ext.same s')
  cases d3 with
  | bl k =>
    cases r'
    refine ⟨k, rfl, ?_⟩
    cases k with
    | true =>
      refine tD_intro (hρ.ext e12) (S2.same s') (Out.sat_bind p) (fun d4 s4 h4 v4 β4 H4 e4 S4 r4 => ?_) fun x s q => (hE x s q).ext e12
      obtain ⟨d5, q5, p5⟩ := oout_sat (Out.sat_bind h4)
      obtain ⟨k5, e5, p5⟩ := gBl_sat p5
      subst e5
      refine hm' β4 H4 s4 v2 v4 d2 d4 _ _ (Rep.ext ((Ext.same s').trans e4) _ _ r2) r4 S4 q5 fun w5 H5 s5 r5 => ?_
      cases r5
      exact hP _ _ p5 β4 H5 ((e12.trans e4).trans (Ext.same s5)) (S4.same s5)
    | false => exact hP _ _ p β2 H' e12 (S2.same s')
  | _ => exact p.elim
theorem de_chain {op op' : CmpOp} {r r' : R2} {m m' : D → D → Sto → Option D} {h : G D} (ho : OpR X (compareOp op) r) (ho' : OpR X (compareOp op') r') (hm : OpD (zOf X) r m) (hm' : OpD (zOf X) r' m') (ha : DE X W a f) (hb : DE X W b g) (hc : DE X W c h)
    (n1 : lastMarks [op, op'] [b, c] = false := by with_unfolding_all rfl) : DE X W (.Compare a [op, op'] [b, c] pos) (gB (gChain m m' f g h)) := by
  refine PEmono (pe_chain ho ho' ha hb hc n1) fun σ H Q h => ?_
  obtain ⟨β, ρ, st, hρ, hs, h⟩ := h
  exact chain_core hm hm' hρ hs (Out.sat_bind h) (fun k s1 p β' H' e S => p (.bl k) β' H' e S (.bl _)) fun _ _ q => q
theorem dt_chain {op op' : CmpOp} {r r' : R2} {m m' : D → D → Sto → Option D} {h : G D} (ho : OpR X (compareOp op) r) (ho' : OpR X (compareOp op') r') (hm : OpD (zOf X) r m) (hm' : OpD (zOf X) r' m') (ha : DE X W a f) (hb : DE X W b g) (hc : DE X W c h)
    (n1 : lastMarks [op, op'] [b, c] = false := by with_unfolding_all rfl) : DT X W (.Compare a [op, op'] [b, c] pos) (gChain m m' f g h) := by
  refine PTmono (pt_chain ho ho' ha hb hc n1) fun σ H Q h => ?_
  obtain ⟨β, ρ, st, hρ, hs, h⟩ := h
  exact chain_core hm hm' hρ hs h (fun k s1 p β' H' e S => ⟨k, rfl, p β' H' e S⟩) fun _ _ q => q
theorem dt_not (ha : DT X W a t) : DT X W (.UnaryOp .Not a pos) (gTNot t) := by
  refine PTmono (pt_not ha) fun σ H Q h => ?_
  obtain ⟨β, ρ, st, hρ, hs, h⟩ := h
  exact tDT_intro hρ hs (Out.sat_bind h) (fun k s1 h1 β1 H1 e1 S1 => h1 β1 H1 e1 S1) fun _ _ q => q
theorem dw_and1 (ha : DT X W a t) : DW X W (.BoolOp .And [a] pos) t := pw_and1 ha
theorem dw_or1 (ha : DT X W a t) : DW X W (.BoolOp .Or [a] pos) t := pw_or1 ha
theorem dw_and (ha : DT X W a t) (hb : DW X W (.BoolOp .And (b :: rest) pos) u) : DW X W (.BoolOp .And (a :: b :: rest) pos) (gTAnd t u) := by
  refine PWmono (pw_and ha hb) fun σ H Q h => ?_
  obtain ⟨β, ρ, st, hρ, hs, h⟩ := h
  refine tDT_intro hρ hs (Out.sat_bind h) (fun k s1 h1 β1 H1 e1 S1 => ?_) fun _ _ q => q
  cases k with
  | true => exact ⟨β1, ρ, s1, hρ.ext e1, S1, Out.sat.mono h1 (fun _ _ z β2 H2 e2 => z β2 H2 (e1.trans e2)) fun _ _ z => z.ext e1⟩
  | false => exact h1 β1 H1 e1 S1
theorem dw_or (ha : DT X W a t) (hb : DW X W (.BoolOp .Or (b :: rest) pos) u) : DW X W (.BoolOp .Or (a :: b :: rest) pos) (gTOr t u) := by
  refine PWmono (pw_or ha hb) fun σ H Q h => ?_
  obtain ⟨β, ρ, st, hρ, hs, h⟩ := h
  refine tDT_intro hρ hs (Out.sat_bind h) (fun k s1 h1 β1 H1 e1 S1 => ?_) fun _ _ q => q
  cases k with
  | false => exact ⟨β1, ρ, s1, hρ.ext e1, S1, Out.sat.mono h1 (fun _ _ z β2 H2 e2 => z β2 H2 (e1.trans e2)) fun _ _ z => z.ext e1⟩
  | true => exact h1 β1 H1 e1 S1
theorem dt_w (h : DW X W a t) : DT X W a t := h.pt
theorem de_if (hc : DT X W c t) (ha : DE X W a f) (hb : DE X W b g) : DE X W (.IfExp c a b pos) (gIf t f g) := by
  refine PEmono (pe_ifExp hc ha hb) fun σ H Q h => ?_
  obtain ⟨β, ρ, st, hρ, hs, h⟩ := h
  refine tDT_intro hρ hs (Out.sat_bind h) (fun k s1 h1 β1 H1 e1 S1 => ?_) fun _ _ q => q
  cases k with
  | true => exact ⟨β1, ρ, s1, hρ.ext e1, S1, Out.sat.mono h1 (fun _ _ z => z.ext e1) fun _ _ z => z.ext e1⟩
  | false => exact ⟨β1, ρ, s1, hρ.ext e1, S1, Out.sat.mono h1 (fun _ _ z => z.ext e1) fun _ _ z => z.ext e1⟩

/-! ### items, slices -/
def atD (l : List D) (i : Int) : Option D := atI l i
def mIx : D → D → Sto → Option D
  | .tup l, .int i, _ => atI l i
  | .lst l, .int i, _ => atI l i
  | .ro l, .int i, _ => atI l i
  | .ref n, .int i, st => match st[n]? with
    | some (.lst l) => atI l i
    | _ => none
  | .str z, .int i, _ => if z.length ≤ LIM then (atI z.cps.toList i).map fun c => .str ⟨#[c]⟩ else none
  | _, _, _ => none
theorem Reps.atI {K : Zx} {β : Bx} {H : Hp} {vs : List V} {ds : List D} {i : Int} {d : D} (r : Reps K β H vs ds) (h : L2.atI ds i = some d) : ∃ v, L2.atI vs i = some v ∧ Rep K β H v d := by
  unfold L2.atI at h ⊢
  rw [r.length]
  cases e : ixN ds.length i with
  | none => rw [e] at h; cases h
  | some j =>
    rw [e] at h
    exact r.get h
theorem od_ix {K : Zx} : OpD K (rIx K) mIx := by
  intro β H st x y dx dy d Q rx ry S e q
  cases dy <;> try (cases dx <;> simp only [mIx, reduceCtorEq] at e)
  all_goals cases ry
  case tup.int l i => cases rx with | tup h1 h2 h3 => obtain ⟨v, hv, r⟩ := h2.atI e; exact .inr (.inl ⟨_, _, _, v, rfl, rfl, h1, hv, q _ _ (Same.refl H) r⟩)
  case lst.int l i => cases rx with | lst h1 hn h2 h3 => obtain ⟨v, hv, r⟩ := h2.atI e; exact .inl ⟨_, _, _, v, rfl, rfl, SqL.of h1, hv, q _ _ (Same.refl H) r⟩
  case ro.int l i => cases rx with | ro h1 h2 h3 => obtain ⟨v, hv, r⟩ := h2.atI e; exact .inl ⟨_, _, _, v, rfl, rfl, h1.sqL, hv, q _ _ (Same.refl H) r⟩
  case ref.int n i =>
    cases rx with
    | ref hm =>
      obtain ⟨o, ho, rel⟩ := S.get hm
      rw [ho] at e
      cases o with
      | lst l =>
        obtain ⟨xs, h, r⟩ := rel
        obtain ⟨v, hv, r⟩ := r.atI e
        exact .inl ⟨_, _, _, v, rfl, rfl, SqL.of h, hv, q _ _ (Same.refl H) r⟩
      | dK l => cases e
      | tab _ _ => cases e
      | dN _ => cases e
      | ins _ _ => cases e
      | lock => cases e
  case str.int z i =>
    cases rx
    split at e
    · rename_i hz
      rw [Option.map_eq_some_iff] at e
      obtain ⟨c, hc, e⟩ := e
      subst e
      exact .inr (.inr ⟨_, _, c, rfl, rfl, leLIM hz, hc, q _ _ (Same.refl H) (.str _)⟩)
    · cases e
end
end DL

set_option Elab.async false
set_option linter.all false
set_option maxRecDepth 100000
set_option maxHeartbeats 2000000
namespace DL
open PySem PySem.Spec L2
open PyProof.Rows hiding St

/-! ### slices -/
def cutD (xs : List D) (lo hi : Option Int) : List D := (xs.drop (HT.sIx xs.length 0 lo)).take (HT.sIx xs.length xs.length hi - HT.sIx xs.length 0 lo)
def mSl : D → Option Int → Option Int → Sto → Option D
  | .tup l, lo, hi, _ => some (.tup (cutD l lo hi))
  | .lst l, lo, hi, _ => some (.lst (cutD l lo hi))
  | .ro l, lo, hi, _ => some (.lst (cutD l lo hi))
  | .ref n, lo, hi, st => match st[n]? with
    | some (.lst l) => if l.length ≤ LIM then some (.lst (cutD l lo hi)) else none
    | _ => none
  | _, _, _, _ => none
theorem cutD_len (xs : List D) (lo hi : Option Int) : (cutD xs lo hi).length ≤ xs.length := by
  unfold cutD
  rw [List.length_take, List.length_drop]
  omega
theorem Reps.cut {K : Zx} {β : Bx} {H : Hp} {vs : List V} {ds : List D} (r : Reps K β H vs ds) (lo hi : Option Int) : Reps K β H (cutV vs lo hi) (cutD ds lo hi) := by
  unfold cutV cutD
  rw [r.length]
  exact (r.drop _).take _
theorem cutD_whole {xs : List D} {lo hi : Option Int} (h : HT.sIx xs.length 0 lo = 0 ∧ HT.sIx xs.length xs.length hi = xs.length) : cutD xs lo hi = xs := by
  unfold cutD
  rw [h.1, h.2]
  simp
abbrev rSlD (K : PySem.W.Frag) : V → Option Int → Option Int → Hp → VK → Prop := fun x lo hi H Q => rSlA K x lo hi H Q ∨ rSlL K x lo hi H Q
theorem sr_sl {X : Cx} : SlR X (rSlD X.K) := sl_tupA.or sl_list
theorem sd_sl {K : Zx} {β : Bx} {H : Hp} {st : Sto} {x : V} {dx d : D} {lo hi : Option Int} {Q : VK} (rx : Rep K β H x dx) (S : StoOk K β H st) (e : mSl dx lo hi st = some d) (q : ∀ v H', Same H H' → Rep K β H' v d → Q v H') : rSlD K x lo hi H Q := by
  cases dx <;> simp only [mSl, reduceCtorEq, Option.some.injEq] at e
  case tup l =>
    subst e
    cases rx with
    | tup h1 h2 h3 =>
      rename_i p xs
      refine .inl ⟨_, xs, rfl, h1, fun hw => ?_, fun hw p hp => ?_⟩
      · rw [h2.length] at hw
        rw [cutD_whole hw] at q
        exact q _ _ (Same.refl H) (.tup h1 h2 h3)
      · exact q _ _ (same_new hp) (.tup (.inl (.inl upd_same)) (Reps.ext (Ext.new hp) _ _ (h2.cut lo hi)) (Nat.le_trans (cutD_len _ _ _) h3))
  case lst l =>
    subst e
    cases rx with
    | lst h1 hn h2 h3 =>
      exact .inr ⟨_, _, rfl, SqL.of h1, fun p hp => q _ _ (same_new hp) (.lst upd_same (S.nmem hp) (Reps.ext (Ext.new hp) _ _ (h2.cut lo hi)) (Nat.le_trans (cutD_len _ _ _) h3))⟩
  case ro l =>
    subst e
    cases rx with
    | ro h1 h2 h3 =>
      exact .inr ⟨_, _, rfl, h1.sqL, fun p hp => q _ _ (same_new hp) (.lst upd_same (S.nmem hp) (Reps.ext (Ext.new hp) _ _ (h2.cut lo hi)) (Nat.le_trans (cutD_len _ _ _) h3))⟩
  case ref n =>
    cases rx with
    | ref hm =>
      obtain ⟨o, ho, rel⟩ := S.get hm
      rw [ho] at e
      cases o with
      | lst l =>
        obtain ⟨xs, h, r⟩ := rel
        have e : (if l.length ≤ LIM then some (D.lst (cutD l lo hi)) else none) = some d := e
        split at e
        · rename_i hz
          have e := Option.some.inj e
          subst e
          exact .inr ⟨_, _, rfl, SqL.of h, fun p hp => q _ _ (same_new hp) (.lst upd_same (S.nmem hp) (Reps.ext (Ext.new hp) _ _ (r.cut lo hi)) (Nat.le_trans (cutD_len _ _ _) (leLIM hz)))⟩
        · cases e
      | dK l => cases e
      | tab _ _ => cases e
      | dN _ => cases e
      | ins _ _ => cases e
      | lock => cases e
def gOp3 (f : G D) (lo hi : G (Option Int)) : G D := fun ρ st => (f ρ st).bind fun d s1 => (lo ρ s1).bind fun l s2 => (hi ρ s2).bind fun u s3 => oout (mSl d l u s3) s3
def gNone : G (Option Int) := fun _ st => .ok none st
def gSome (f : G D) : G (Option Int) := fun ρ st => (f ρ st).bind fun d s1 => match d with
  | .int i => .ok (some i) s1
  | _ => .bad

def PostO (K : Zx) (Q : Option Int → Hp → Prop) (β : Bx) (H : Hp) : Option Int → Sto → Prop := fun o st' => ∀ β' H', Ext β H β' H' → StoOk K β' H' st' → Q o H'
def tDO (K : Zx) (mg : Str → Option Value) (W : WX) (f : G (Option Int)) : TO := fun σ H Q => ∃ β ρ st, RepEnv K β H σ ρ ∧ StoOk K β H st ∧
  (f ρ st).sat (PostO K Q β H) (PostX K mg (fun c d H' => W c d σ H') β H)
section
variable {X : Cx} {W : WX} {pos p2 : Pos} {a b c e : Expr} {lo hi : Option Expr} {es : List Expr} {f g : G D} {l u : G (Option Int)} {fs : G (List D)}
abbrev DO (X : Cx) (W : WX) (e : Option Expr) (f : G (Option Int)) : Prop := PO X e (tDO (zOf X) X.mg W f)
theorem POmono {X : Cx} {e : Option Expr} {t t' : TO} (h : PO X e t) (i : ∀ σ H Q, t' σ H Q → t σ H Q) : PO X e t' := by
  obtain ⟨r⟩ := h
  exact ⟨fun pins s σ H Q I q => r pins s σ H Q I (i _ _ _ q)⟩
theorem do_none : DO X W none gNone := by
  refine POmono po_none fun σ H Q h => ?_
  obtain ⟨β, ρ, st, hρ, hs, h⟩ := h
  exact h β H (Ext.refl β H) hs
theorem do_some (h : DE X W e f) : DO X W (some e) (gSome f) := by
  refine POmono (po_some h) fun σ H Q h => ?_
  obtain ⟨β, ρ, st, hρ, hs, h⟩ := h
  refine tD_intro hρ hs (Out.sat_bind h) (fun d s1 h1 v β1 H1 e1 S1 r1 => ?_) fun _ _ q => q
  cases d with
  | int i => cases r1; exact ⟨i, rfl, h1 β1 H1 e1 S1⟩
  | _ => exact h1.elim
theorem de_sl (he : DE X W e f) (hl : DO X W lo l) (hu : DO X W hi u) : DE X W (.Subscript e (.Slice lo hi none p2) pos) (gOp3 f l u) := by
  refine PEmono (pe_slice sr_sl he hl hu) fun σ H Q h => ?_
  obtain ⟨β, ρ, st, hρ, hs, h⟩ := h
  refine tD_intro hρ hs (Out.sat_bind h) (fun d s1 h1 v β1 H1 e1 S1 r1 => ?_) fun _ _ q => q
  refine ⟨β1, ρ, s1, hρ.ext e1, S1, (Out.sat_bind h1).mono (fun o s2 h2 β2 H2 e2 S2 => ?_) fun _ _ q => q.ext e1⟩
  refine ⟨β2, ρ, s2, (hρ.ext e1).ext e2, S2, (Out.sat_bind h2).mono (fun o2 s3 h3 β3 H3 e3 S3 => ?_) fun _ _ q => (q.ext e1).ext e2⟩
  obtain ⟨d3, q, p⟩ := oout_sat h3
  exact sd_sl (Rep.ext (e2.trans e3) _ _ r1) S3 q fun w' H' s' r' => p w' β3 H' (((e1.trans e2).trans e3).trans (Ext.same s')) (S3.same s') r'
end

/-! ### built-ins -/
section
variable {K : Zx}
def tyD : D → Sto → Option String
  | .non, _ => some "NoneType"
  | .bl _, _ => some "bool"
  | .int _, _ => some "int"
  | .str _, _ => some "str"
  | .tup _, _ => some "tuple"
  | .lst _, _ => some "list"
  | .ro _, _ => some "list"
  | .ref n, st => match st[n]? with
    | some (.lst _) => some "list"
    | some (.dK _) => some "dict"
    | some (.tab _ _) => none
    | some (.dN _) => none
    | some (.ins _ _) => none
    | some .lock => none
    | none => none
  | .raw _, _ => none
  | .clo _ _, _ => none
theorem tyD_x {β : Bx} {H : Hp} {st : Sto} {x : V} {d : D} {t : String} (r : Rep K β H x d) (S : StoOk K β H st) (e : tyD d st = some t) : TyX K H x (.type t) := by
  cases d with
  | non => cases r; cases e; exact .base .non
  | bl c => cases r; cases e; exact .base (.bl _)
  | int i => cases r; cases e; exact .base (.int _)
  | str y => cases r; cases e; exact .base (.str _)
  | tup l =>
    cases e
    cases r with
    | tup h1 h2 h3 =>
      rcases h1 with (h | ⟨o, h⟩) | ⟨o, its, n, hk, hc, _⟩
      · exact .base (.tup h)
      · exact .fTuple h
      · exact .kTuple hk hc
  | lst l => cases e; cases r with | lst h1 hn h2 h3 => exact .base (.lst h1)
  | ro l =>
    cases e
    cases r with
    | ro h1 h2 h3 =>
      rcases h1 with ⟨o, h⟩ | ⟨o, its, n, hk, hc, _⟩
      · exact .base (.frz h)
      · exact .kList hk hc
  | ref n =>
    cases r with
    | ref hm =>
      obtain ⟨o, ho, rel⟩ := S.get hm
      simp only [tyD, ho] at e
      cases o with
      | lst l => cases e; obtain ⟨xs, h, _⟩ := rel; exact .base (.lst h)
      | dK l => cases e; obtain ⟨xs, h, _⟩ := rel; exact .base (.dK h)
      | tab _ _ => cases e
      | dN _ => cases e
      | ins _ _ => cases e
      | lock => cases e
  | raw v => cases e
  | clo _ _ => cases e
/-- isinstance of built-in types -/
def isiB (a b : String) : Option Bool :=
  if a = b then (if a ∈ ["int", "bool", "str", "tuple", "list", "dict"] then some true else none) else if a = "bool" ∧ b = "int" then some true else
  if a ∈ ["NoneType", "int", "bool", "str", "tuple", "list", "dict"] ∧ b ∈ ["int", "bool", "str", "tuple", "list", "dict"] then some false else none
theorem isiB_kit {a b : String} {r : Bool} (h : isiB a b = some r) : kitB a b = some r := by
  unfold isiB at h
  split at h
  · rename_i e
    subst e
    split at h
    · rename_i hm
      cases h
      simp only [List.mem_cons, List.not_mem_nil, or_false] at hm
      rcases hm with rfl | rfl | rfl | rfl | rfl | rfl <;> decide +kernel
    · cases h
  · split at h
    · rename_i e
      obtain ⟨rfl, rfl⟩ := e
      cases h
      decide +kernel
    · split at h
      · rename_i n1 n2 e
        cases h
        obtain ⟨ha, hb⟩ := e
        simp only [List.mem_cons, List.not_mem_nil, or_false] at ha hb
        rcases ha with rfl | rfl | rfl | rfl | rfl | rfl | rfl <;> rcases hb with rfl | rfl | rfl | rfl | rfl | rfl <;> first | exact absurd rfl n1 | exact absurd ⟨rfl, rfl⟩ n2 | decide +kernel
      · cases h
def mIsi : List D → Sto → Option D
  | [d, .raw (.ty b)], st => match tyD d st with
    | some a => (isiB a b).map D.bl
    | none => none
  | _, _ => none
theorem cd_isi : CallD K (rIsi K) mIsi := by
  intro β H st xs ds d Q r S e q
  match ds, r, e with
  | [x, .raw (.ty b)], r, e =>
    obtain ⟨v, w, rfl, r1, r2⟩ := r.two
    simp only [mIsi] at e
    split at e
    · rename_i a ha
      rw [Option.map_eq_some_iff] at e
      obtain ⟨k, hk, e⟩ := e
      subst e
      cases r2
      exact ⟨v, .ty b, _, _, k, rfl, .ty b, tyD_x r1 S ha, kit_ty (isiB_kit hk), q _ _ (Same.refl H) (.bl _)⟩
    · cases e
def mLen : List D → Sto → Option D
  | [.str x], _ => if x.length ≤ LIM then some (.int x.length) else none
  | [.tup l], _ => some (.int l.length)
  | [.lst l], _ => some (.int l.length)
  | [.ro l], _ => some (.int l.length)
  | [.ref n], st => match st[n]? with
    | some (.lst l) => some (.int l.length)
    | _ => none
  | _, _ => none
abbrev rLenD (K : PySem.W.Frag) : List V → Hp → VK → Prop := fun xs H Q => ∃ x n, xs = [x] ∧ LenV K x H n ∧ Q (.int n) H
theorem cd_len : CallD K (rLenD K) mLen := by
  intro β H st xs ds d Q r S e q
  match ds, r, e with
  | [.str x], r, e =>
    obtain ⟨v, rfl, r1⟩ := r.one
    cases r1
    simp only [mLen] at e
    split at e
    · rename_i hz
      cases e
      exact ⟨_, x.length, rfl, ⟨leLIM hz, rfl⟩, q _ _ (Same.refl H) (.int _)⟩
    · cases e
  | [.tup l], r, e =>
    obtain ⟨v, rfl, r1⟩ := r.one
    cases e
    cases r1 with | tup h1 h2 h3 => exact ⟨_, l.length, rfl, .inr ⟨_, h1, h2.length.symm⟩, q _ _ (Same.refl H) (.int _)⟩
  | [.lst l], r, e =>
    obtain ⟨v, rfl, r1⟩ := r.one
    cases e
    cases r1 with | lst h1 hn h2 h3 => exact ⟨_, l.length, rfl, .inl ⟨_, SqL.of h1, h2.length.symm⟩, q _ _ (Same.refl H) (.int _)⟩
  | [.ro l], r, e =>
    obtain ⟨v, rfl, r1⟩ := r.one
    cases e
    cases r1 with | ro h1 h2 h3 => exact ⟨_, l.length, rfl, .inl ⟨_, h1.sqL, h2.length.symm⟩, q _ _ (Same.refl H) (.int _)⟩
  | [.ref n], r, e =>
    obtain ⟨v, rfl, r1⟩ := r.one
    cases r1 with
    | ref hm =>
      obtain ⟨o, ho, rel⟩ := S.get hm
      simp only [mLen, ho] at e
      cases o with
      | lst l =>
        cases e
        obtain ⟨xs, h, r⟩ := rel
        exact ⟨_, l.length, rfl, .inl ⟨_, SqL.of h, r.length.symm⟩, q _ _ (Same.refl H) (.int _)⟩
      | dK l => cases e
      | tab _ _ => cases e
      | dN _ => cases e
      | ins _ _ => cases e
      | lock => cases e
def mTuple : List D → Sto → Option D
  | [.tup l], _ => some (.tup l)
  | [.lst l], _ => some (.tup l)
  | [.ro l], _ => some (.tup l)
  | [.ref n], st => match st[n]? with
    | some (.lst l) => if l.length ≤ LIM then some (.tup l) else none
    | _ => none
  | _, _ => none
abbrev rTupleD (K : PySem.W.Frag) : List V → Hp → VK → Prop := fun xs H Q => ∃ p ys, xs = [.ref p] ∧ ((SqL K H p ys ∧ ∀ l, H l = none → Q (.ref l) (upd H l (.tup ys))) ∨ (SqT K H p ys ∧ Q (.ref p) H))
theorem cd_tuple : CallD K (rTupleD K) mTuple := by
  intro β H st xs ds d Q r S e q
  match ds, r, e with
  | [.tup l], r, e =>
    obtain ⟨v, rfl, r1⟩ := r.one
    cases e
    cases r1 with | tup h1 h2 h3 => exact ⟨_, _, rfl, .inr ⟨h1, q _ _ (Same.refl H) (.tup h1 h2 h3)⟩⟩
  | [.lst l], r, e =>
    obtain ⟨v, rfl, r1⟩ := r.one
    cases e
    cases r1 with | lst h1 hn h2 h3 => exact ⟨_, _, rfl, .inl ⟨SqL.of h1, fun p hp => q _ _ (same_new hp) (.tup (.inl (.inl upd_same)) (Reps.ext (Ext.new hp) _ _ h2) h3)⟩⟩
  | [.ro l], r, e =>
    obtain ⟨v, rfl, r1⟩ := r.one
    cases e
    cases r1 with | ro h1 h2 h3 => exact ⟨_, _, rfl, .inl ⟨h1.sqL, fun p hp => q _ _ (same_new hp) (.tup (.inl (.inl upd_same)) (Reps.ext (Ext.new hp) _ _ h2) h3)⟩⟩
  | [.ref n], r, e =>
    obtain ⟨v, rfl, r1⟩ := r.one
    cases r1 with
    | ref hm =>
      obtain ⟨o, ho, rel⟩ := S.get hm
      simp only [mTuple, ho] at e
      cases o with
      | lst l =>
        simp only at e
        split at e
        · rename_i hz
          cases e
          obtain ⟨xs, h, r⟩ := rel
          exact ⟨_, _, rfl, .inl ⟨SqL.of h, fun p hp => q _ _ (same_new hp) (.tup (.inl (.inl upd_same)) (Reps.ext (Ext.new hp) _ _ r) (leLIM hz))⟩⟩
        · cases e
      | dK l => cases e
      | tab _ _ => cases e
      | dN _ => cases e
      | ins _ _ => cases e
      | lock => cases e
def mList : List D → Sto → Option D
  | [.tup l], _ => some (.lst l)
  | [.lst l], _ => some (.lst l)
  | [.ro l], _ => some (.lst l)
  | [.ref n], st => match st[n]? with
    | some (.lst l) => if l.length ≤ LIM then some (.lst l) else none
    | _ => none
  | _, _ => none
abbrev rListD (K : PySem.W.Frag) : List V → Hp → VK → Prop := fun xs H Q => ∃ p ys, xs = [.ref p] ∧ (SqL K H p ys ∨ SqT K H p ys) ∧ ∀ l, H l = none → Q (.ref l) (upd H l (.lst ys))
theorem cd_list : CallD K (rListD K) mList := by
  intro β H st xs ds d Q r S e q
  have fin : ∀ {p : Addr} {ys : List V} {l : List D}, Reps K β H ys l → l.length ≤ sizeLine → (SqL K H p ys ∨ SqT K H p ys) → d = .lst l → xs = [.ref p] → rListD K xs H Q := fun {p ys l} h2 h3 hh ed ex => by
    subst ed
    exact ⟨p, ys, ex, hh, fun p hp => q _ _ (same_new hp) (.lst upd_same (S.nmem hp) (Reps.ext (Ext.new hp) _ _ h2) h3)⟩
  match ds, r, e with
  | [.tup l], r, e =>
    obtain ⟨v, rfl, r1⟩ := r.one
    cases e
    cases r1 with | tup h1 h2 h3 => exact fin h2 h3 (.inr h1) rfl rfl
  | [.lst l], r, e =>
    obtain ⟨v, rfl, r1⟩ := r.one
    cases e
    cases r1 with | lst h1 hn h2 h3 => exact fin h2 h3 (.inl (SqL.of h1)) rfl rfl
  | [.ro l], r, e =>
    obtain ⟨v, rfl, r1⟩ := r.one
    cases e
    cases r1 with | ro h1 h2 h3 => exact fin h2 h3 (.inl h1.sqL) rfl rfl
  | [.ref n], r, e =>
    obtain ⟨v, rfl, r1⟩ := r.one
    cases r1 with
    | ref hm =>
      obtain ⟨o, ho, rel⟩ := S.get hm
      simp only [mList, ho] at e
      cases o with
      | lst l =>
        simp only at e
        split at e
        · rename_i hz
          cases e
          obtain ⟨xs, h, r⟩ := rel
          exact fin r (leLIM hz) (.inl (SqL.of h)) rfl rfl
        · cases e
      | dK l => cases e
      | tab _ _ => cases e
      | dN _ => cases e
      | ins _ _ => cases e
      | lock => cases e
def bls : List D → Option (List Bool)
  | [] => some []
  | .bl b :: r => (bls r).map (b :: ·)
  | _ => none
theorem bls_reps {β : Bx} {H : Hp} : ∀ {l : List D} {xs : List V} {bs : List Bool}, Reps K β H xs l → bls l = some bs → xs = bs.map V.bl
  | [], _, _, r, e => by cases r; cases e; rfl
  | d :: l, _, _, r, e => by
    cases r with
    | cons r1 r2 =>
      cases d <;> simp only [bls, reduceCtorEq] at e
      rw [Option.map_eq_some_iff] at e
      obtain ⟨bs, hb, rfl⟩ := e
      cases r1
      rw [bls_reps r2 hb]
      rfl
def mAll : List D → Sto → Option D
  | [.lst l], _ => (bls l).map fun bs => .bl (bs.all id)
  | _, _ => none
def mAny : List D → Sto → Option D
  | [.lst l], _ => (bls l).map fun bs => .bl (bs.any id)
  | _, _ => none
theorem cd_all : CallD K (rAll K) mAll := by
  intro β H st xs ds d Q r S e q
  match ds, r, e with
  | [.lst l], r, e =>
    obtain ⟨v, rfl, r1⟩ := r.one
    simp only [mAll, Option.map_eq_some_iff] at e
    obtain ⟨bs, hb, rfl⟩ := e
    cases r1 with | lst h1 hn h2 h3 => exact ⟨_, bs, rfl, by rw [← bls_reps h2 hb]; exact SqL.of h1, q _ _ (Same.refl H) (.bl _)⟩
theorem cd_any : CallD K (rAny K) mAny := by
  intro β H st xs ds d Q r S e q
  match ds, r, e with
  | [.lst l], r, e =>
    obtain ⟨v, rfl, r1⟩ := r.one
    simp only [mAny, Option.map_eq_some_iff] at e
    obtain ⟨bs, hb, rfl⟩ := e
    cases r1 with | lst h1 hn h2 h3 => exact ⟨_, bs, rfl, by rw [← bls_reps h2 hb]; exact SqL.of h1, q _ _ (Same.refl H) (.bl _)⟩
def mInt : List D → Sto → Option D
  | [.int i], _ => some (.int i)
  | [.bl b], _ => some (.int (if b then 1 else 0))
  | _, _ => none
abbrev rIntD : List V → Hp → VK → Prop := fun xs H Q => (∃ i, xs = [.int i] ∧ Q (.int i) H) ∨ ∃ k, xs = [.bl k] ∧ Q (.int (if k then 1 else 0)) H
theorem cd_int : CallD K rIntD mInt := by
  intro β H st xs ds d Q r S e q
  match ds, r, e with
  | [.int i], r, e => obtain ⟨v, rfl, r1⟩ := r.one; cases r1; cases e; exact .inl ⟨_, rfl, q _ _ (Same.refl H) (.int _)⟩
  | [.bl i], r, e => obtain ⟨v, rfl, r1⟩ := r.one; cases r1; cases e; exact .inr ⟨_, rfl, q _ _ (Same.refl H) (.int _)⟩
def mMin2 : List D → Sto → Option D
  | [.int i, .int j], _ => some (.int (if j < i then j else i))
  | _, _ => none
def mMax2 : List D → Sto → Option D
  | [.int i, .int j], _ => some (.int (if j > i then j else i))
  | _, _ => none
theorem cd_min2 : CallD K (fun xs H Q => ∃ i j, xs = [.int i, .int j] ∧ Q (.int (if j < i then j else i)) H) mMin2 := by
  intro β H st xs ds d Q r S e q
  match ds, r, e with
  | [.int i, .int j], r, e => obtain ⟨v, w, rfl, r1, r2⟩ := r.two; cases r1; cases r2; cases e; exact ⟨_, _, rfl, q _ _ (Same.refl H) (.int _)⟩
theorem cd_max2 : CallD K (fun xs H Q => ∃ i j, xs = [.int i, .int j] ∧ Q (.int (if j > i then j else i)) H) mMax2 := by
  intro β H st xs ds d Q r S e q
  match ds, r, e with
  | [.int i, .int j], r, e => obtain ⟨v, w, rfl, r1, r2⟩ := r.two; cases r1; cases r2; cases e; exact ⟨_, _, rfl, q _ _ (Same.refl H) (.int _)⟩
end
end DL

set_option Elab.async false
set_option linter.all false
set_option maxRecDepth 100000
set_option maxHeartbeats 2000000
namespace DL
open PySem PySem.Spec L2
open PyProof.Rows hiding St

/-! ### targets -/
inductive Pat where
  | nm (i : Nat) | tp (ps : List Pat)
mutual
def Pat.tg (K : Zx) : Pat → TG
  | .nm i => gName i
  | .tp ps => gTup K ps.length (Pats.tg K ps)
def Pats.tg (K : Zx) : List Pat → TGs
  | [] => gNil
  | p :: ps => gCons (Pat.tg K p) (Pats.tg K ps)
end
mutual
def Pat.set : Pat → D → Env → Option Env
  | .nm i, d, ρ => some (ρ.set i (some d))
  | .tp ps, .tup ds, ρ => if ds.length = ps.length then Pats.set ps ds ρ else none
  | .tp _, _, _ => none
def Pats.set : List Pat → List D → Env → Option Env
  | [], [], ρ => some ρ
  | p :: ps, d :: ds, ρ => match Pat.set p d ρ with
    | some ρ' => Pats.set ps ds ρ'
    | none => none
  | [], _ :: _, _ => none
  | _ :: _, [], _ => none
end
mutual
def Pat.slots : Pat → List Nat
  | .nm i => [i]
  | .tp ps => Pats.slots ps
def Pats.slots : List Pat → List Nat
  | [] => []
  | p :: ps => Pat.slots p ++ Pats.slots ps
end
section
variable {K : Zx} {β : Bx} {H : Hp}
mutual
theorem pat_ok : ∀ (p : Pat) (v : V) (d : D) (σ : L2.St) (ρ ρ' : Env) (Q : L2.St → Hp → Prop), Rep K β H v d → Pat.set p d ρ = some ρ' → RepEnv K β H σ ρ →
    (∀ σ', RepEnv K β H σ' ρ' → (∀ j, j ∉ p.slots → σ'[j]? = σ[j]?) → σ'.length = σ.length → Q σ' H) → p.tg K v σ H Q
  | .nm i, v, d, σ, ρ, ρ', Q, r, e, hρ, q => by
    simp only [Pat.set, Option.some.injEq] at e
    subst e
    simp only [Pat.tg]
    refine q _ (hρ.set i r) (fun j hj => ?_) (by simp)
    simp only [Pat.slots, List.mem_singleton] at hj
    rw [List.getElem?_set_ne (Ne.symm hj)]
  | .tp ps, v, .tup ds, σ, ρ, ρ', Q, r, e, hρ, q => by
    simp only [Pat.set] at e
    split at e
    · rename_i hl
      cases r with
      | tup h1 h2 h3 =>
        simp only [Pat.tg]
        refine ⟨_, _, rfl, h1, by rw [h2.length]; exact hl, ?_⟩
        exact pats_ok ps _ ds σ ρ ρ' Q h2 e hρ (by simpa only [Pat.slots] using q)
    · cases e
  | .tp ps, v, .non, σ, ρ, ρ', Q, r, e, hρ, q => by simp [Pat.set] at e
  | .tp ps, v, .bl _, σ, ρ, ρ', Q, r, e, hρ, q => by simp [Pat.set] at e
  | .tp ps, v, .int _, σ, ρ, ρ', Q, r, e, hρ, q => by simp [Pat.set] at e
  | .tp ps, v, .str _, σ, ρ, ρ', Q, r, e, hρ, q => by simp [Pat.set] at e
  | .tp ps, v, .lst _, σ, ρ, ρ', Q, r, e, hρ, q => by simp [Pat.set] at e
  | .tp ps, v, .ro _, σ, ρ, ρ', Q, r, e, hρ, q => by simp [Pat.set] at e
  | .tp ps, v, .ref _, σ, ρ, ρ', Q, r, e, hρ, q => by simp [Pat.set] at e
  | .tp ps, v, .raw _, σ, ρ, ρ', Q, r, e, hρ, q => by simp [Pat.set] at e
  | .tp ps, v, .clo _ _, σ, ρ, ρ', Q, r, e, hρ, q => by simp [Pat.set] at e
theorem pats_ok : ∀ (ps : List Pat) (vs : List V) (ds : List D) (σ : L2.St) (ρ ρ' : Env) (Q : L2.St → Hp → Prop), Reps K β H vs ds → Pats.set ps ds ρ = some ρ' → RepEnv K β H σ ρ →
    (∀ σ', RepEnv K β H σ' ρ' → (∀ j, j ∉ Pats.slots ps → σ'[j]? = σ[j]?) → σ'.length = σ.length → Q σ' H) → Pats.tg K ps vs σ H Q
  | [], vs, [], σ, ρ, ρ', Q, r, e, hρ, q => by
    simp only [Pats.set, Option.some.injEq] at e
    subst e
    cases r
    simp only [Pats.tg]
    exact ⟨rfl, q σ hρ (fun _ _ => rfl) rfl⟩
  | p :: ps, vs, d :: ds, σ, ρ, ρ', Q, r, e, hρ, q => by
    simp only [Pats.set] at e
    split at e
    · rename_i ρ1 h1
      cases r with
      | cons r1 r2 =>
        rename_i v vs
        simp only [Pats.tg]
        refine ⟨v, vs, rfl, ?_⟩
        refine pat_ok p v d σ ρ ρ1 _ r1 h1 hρ fun σ1 hρ1 k1 l1 => ?_
        refine pats_ok ps vs ds σ1 ρ1 ρ' Q r2 e hρ1 fun σ2 hρ2 k2 l2 => ?_
        refine q σ2 hρ2 (fun j hj => ?_) (l2.trans l1)
        simp only [Pats.slots, List.mem_append, not_or] at hj
        rw [k2 j hj.2, k1 j hj.1]
    · cases e
  | [], vs, _ :: _, σ, ρ, ρ', Q, r, e, hρ, q => by simp [Pats.set] at e
  | _ :: _, vs, [], σ, ρ, ρ', Q, r, e, hρ, q => by simp [Pats.set] at e
end
end
theorem wipe_get {σ : L2.St} {j : Nat} : ∀ {vs : List Nat}, (wipe σ vs)[j]? = if j ∈ vs then (if j < σ.length then some none else none) else σ[j]?
  | [] => by simp [wipe]
  | v :: vs => by
    unfold wipe
    by_cases h : v = j
    · subst h
      by_cases hl : v < σ.length
      · rw [List.getElem?_set_self (by rw [wipe_length]; exact hl)]
        simp [hl]
      · rw [List.getElem?_eq_none (by rw [List.length_set, wipe_length]; omega)]
        simp [hl]
    · rw [List.getElem?_set_ne h, wipe_get]
      have : j ∈ v :: vs ↔ j ∈ vs := by
        simp only [List.mem_cons]
        exact ⟨fun z => z.elim (fun e => absurd e.symm h) id, .inr⟩
      simp only [this]
theorem wipe_same {σ σ' : L2.St} {vs : List Nat} (hl : σ'.length = σ.length) (h : ∀ j, j ∉ vs → σ'[j]? = σ[j]?) : wipe σ' vs = wipe σ vs := by
  refine List.ext_getElem? fun j => ?_
  rw [wipe_get, wipe_get, hl]
  by_cases hj : j ∈ vs
  · rw [if_pos hj, if_pos hj]
  · rw [if_neg hj, if_neg hj, h j hj]
def wipeE (ρ : Env) : List Nat → Env
  | [] => ρ
  | v :: vs => (wipeE ρ vs).set v none
theorem RepEnv.setN {K : Zx} {β : Bx} {H : Hp} {σ : L2.St} {ρ : Env} (h : RepEnv K β H σ ρ) (i : Nat) (o : Option V) : RepEnv K β H (σ.set i o) (ρ.set i none) := by
  refine ⟨by rw [List.length_set, List.length_set]; exact h.1, fun j d q => ?_⟩
  by_cases hj : i = j
  · subst hj
    have hl : i < ρ.length := by
      have := (List.getElem?_eq_some_iff.mp q).1
      simpa using this
    rw [List.getElem?_set_self hl] at q
    cases Option.some.inj q
  · rw [List.getElem?_set_ne hj] at q
    obtain ⟨w, h1, h2⟩ := h.2 j d q
    exact ⟨w, by rw [List.getElem?_set_ne hj]; exact h1, h2⟩
theorem RepEnv.wipe {K : Zx} {β : Bx} {H : Hp} {σ : L2.St} {ρ : Env} (h : RepEnv K β H σ ρ) : ∀ vs : List Nat, RepEnv K β H (L2.wipe σ vs) (wipeE ρ vs)
  | [] => h
  | v :: vs => (RepEnv.wipe h vs).setN v none
section
variable {X : Cx} {pos : Pos}
abbrev DG (X : Cx) (tg : Expr) (p : Pat) : Prop := PG X tg (p.tg (zOf X))
abbrev DGs (X : Cx) (tg : List Expr) (p : List Pat) : Prop := PGs X tg (Pats.tg (zOf X) p)
theorem dg_nm {i : Nat} {x : Str} (hN : X.N.Nodup) (hi : X.N[i]? = some x) (hx : Loc X.env.scope x) (hf : X.fn x = true ∨ X.env.scope.names.lookup x = some .local := by first | exact .inl rfl | exact .inr rfl | assumption) : DG X (.Name x pos) (.nm i) := by
  have := pg_name (pos := pos) hN hi hx hf
  exact PGmono this fun v σ H Q h => by simpa only [Pat.tg] using h
theorem dgs_nil : DGs X [] [] := by
  have h := pgs_nil (X := X)
  unfold DGs
  simp only [Pats.tg]
  exact h
theorem dgs_cons {e : Expr} {es : List Expr} {p : Pat} {ps : List Pat} (h1 : DG X e p) (h2 : DGs X es ps) (hs : (assignEach (e :: es) X.env).map (·.2) = assign e X.env :: (assignEach es X.env).map (·.2) := by rfl) : DGs X (e :: es) (p :: ps) := by
  unfold DGs
  simp only [Pats.tg]
  exact pgs_cons h1 h2 hs
theorem dg_tp {es : List Expr} {k : Nat} {ps : List Pat} (hc : X.calm = true) (h : DGs X es ps)
    (hn : (assignEach es X.env).length = ps.length := by rfl) (hst : (assignEach es X.env).findIdx? (·.1) = none := by rfl) : DG X (.Tuple es k pos) (.tp ps) := by
  unfold DG
  simp only [Pat.tg]
  exact pg_tup hc h hn hst
end

/-! ### what is walked -/
structure ItD (K : Zx) (β : Bx) (H : Hp) (J : It) (items : List D) : Prop where
  go : ∀ β' H' i, Mv β H β' H' → i < items.length → J.go i H'
  yld : ∀ β' H' i x H'' d, Mv β H β' H' → items[i]? = some d → J.yld i H' x H'' → Same H' H'' ∧ Rep K β' H'' x d
  stop : ∀ β' H' i, Mv β H β' H' → items.length ≤ i → J.stop i H'
theorem ItD.mv {K : Zx} {β β' : Bx} {H H' : Hp} {J : It} {items : List D} (t : ItD K β H J items) (e : Mv β H β' H') : ItD K β' H' J items :=
  ⟨fun b h i x => t.go b h i (e.trans x), fun b h i x h'' d z => t.yld b h i x h'' d (e.trans z), fun b h i x => t.stop b h i (e.trans x)⟩
def tDI (K : Zx) (mg : Str → Option Value) (W : WX) (f : G (List D)) : TI := fun σ H R => ∃ β ρ st, RepEnv K β H σ ρ ∧ StoOk K β H st ∧
  (f ρ st).sat (fun items st' => ∀ J β' H', Ext β H β' H' → StoOk K β' H' st' → ItD K β' H' J items → items.length ≤ sizeLine → R J H') (PostX K mg (fun c d H' => W c d σ H') β H)
abbrev DI (X : Cx) (W : WX) (tg e : Expr) (f : G (List D)) : Prop := PI X tg e (tDI (zOf X) X.mg W f)
section
variable {K : Zx} {β : Bx} {H : Hp}
theorem itd_l {a : Addr} {xs : List V} {l : List D} (h : ∀ β' H', Mv β H β' H' → SqL K H' a xs) (r : Reps K β H xs l) : ItD K β H (Itl K a) l where
  go := fun β' H' i e hi => ⟨xs, xs[i]'(by rw [r.length]; exact hi), h β' H' e, List.getElem?_eq_getElem _⟩
  yld := fun β' H' i x H'' d e hd hy => by
    obtain ⟨rfl, hy⟩ := hy
    obtain ⟨v, hv, rv⟩ := r.get hd
    have e1 := hy xs (h β' _ e)
    rw [hv] at e1
    have e1 := Option.some.inj e1
    subst e1
    exact ⟨Same.refl _, Rep.move e _ _ rv⟩
  stop := fun β' H' i e hi => ⟨xs, h β' H' e, by rw [r.length]; exact hi⟩
theorem itd_t {a : Addr} {xs : List V} {l : List D} (h : SqT K H a xs) (r : Reps K β H xs l) : ItD K β H (Itt K a) l where
  go := fun β' H' i e hi => ⟨xs, xs[i]'(by rw [r.length]; exact hi), e.sqT h, List.getElem?_eq_getElem _⟩
  yld := fun β' H' i x H'' d e hd hy => by
    obtain ⟨rfl, hy⟩ := hy
    obtain ⟨v, hv, rv⟩ := r.get hd
    have e1 := hy xs (e.sqT h)
    rw [hv] at e1
    have e1 := Option.some.inj e1
    subst e1
    exact ⟨Same.refl _, Rep.move e _ _ rv⟩
  stop := fun β' H' i e hi => ⟨xs, e.sqT h, by rw [r.length]; exact hi⟩
theorem itd_r (lo : Int) (n : Nat) : ItD K β H (Itr lo n) ((List.range n).map fun i : Nat => D.int (lo + (i : Int))) where
  go := fun β' H' i e hi => by show i < n; simpa using hi
  yld := fun β' H' i x H'' d e hd hy => by
    obtain ⟨rfl, rfl⟩ := hy
    rw [List.getElem?_map] at hd
    cases q : (List.range n)[i]? with
    | none => rw [q] at hd; cases hd
    | some j =>
      rw [q] at hd
      have hd := Option.some.inj hd
      have hj : i = j := by
        have := (List.getElem?_eq_some_iff.mp q).2
        simpa using this
      subst hd hj
      exact ⟨Same.refl _, .int _⟩
  stop := fun β' H' i e hi => by show n ≤ i; simpa using hi
def zipD : List D → List D → List D
  | a :: as, b :: bs => .tup [a, b] :: zipD as bs
  | _, _ => []
theorem zipD_len : ∀ a b : List D, (zipD a b).length = min a.length b.length
  | [], b => by simp [zipD]
  | _ :: _, [] => by simp [zipD]
  | a :: as, b :: bs => by simp only [zipD, List.length_cons, zipD_len as bs]; omega
theorem zipD_get : ∀ {a b : List D} {i : Nat} {d : D}, (zipD a b)[i]? = some d → ∃ x y, d = .tup [x, y] ∧ a[i]? = some x ∧ b[i]? = some y
  | [], b, i, d, h => by simp [zipD] at h
  | _ :: _, [], i, d, h => by simp [zipD] at h
  | a :: as, b :: bs, 0, d, h => ⟨a, b, (Option.some.inj (by simpa [zipD] using h)).symm, rfl, rfl⟩
  | a :: as, b :: bs, i + 1, d, h => by
    obtain ⟨x, y, e, h1, h2⟩ := zipD_get (a := as) (b := bs) (i := i) (d := d) (by simpa [zipD] using h)
    exact ⟨x, y, e, by simpa using h1, by simpa using h2⟩
theorem itd_zt {a b : Addr} {xs ys : List V} {l m : List D} (h : SqT K H a xs) (h' : SqT K H b ys) (r : Reps K β H xs l) (r' : Reps K β H ys m) : ItD K β H (RZ.ItzT K a b) (zipD l m) where
  go := fun β' H' i e hi => by
    rw [zipD_len] at hi
    exact ⟨xs, ys, xs[i]'(by rw [r.length]; omega), ys[i]'(by rw [r'.length]; omega), e.sqT h, e.sqT h', List.getElem?_eq_getElem _, List.getElem?_eq_getElem _⟩
  yld := fun β' H' i x H'' d e hd hy => by
    obtain ⟨T, x1, y1, rfl, nT, rfl, f1, f2⟩ := hy
    obtain ⟨dx, dy, rfl, g1, g2⟩ := zipD_get hd
    obtain ⟨v, hv, rv⟩ := r.get g1
    obtain ⟨v', hv', rv'⟩ := r'.get g2
    have e1 := f1 xs (e.sqT h)
    have e2 := f2 ys (e.sqT h')
    rw [hv] at e1
    rw [hv'] at e2
    have e1 := Option.some.inj e1
    have e2 := Option.some.inj e2
    subst e1 e2
    have e3 := e.trans (Ext.new (β := β') (o := .tup [v, v']) nT).mv
    exact ⟨same_new nT, .tup (.inl (.inl upd_same)) (.cons (Rep.move e3 _ _ rv) (.cons (Rep.move e3 _ _ rv') .nil)) (le1000 (by simp))⟩
  stop := fun β' H' i e hi => by
    rw [zipD_len] at hi
    refine ⟨xs, ys, e.sqT h, e.sqT h', ?_⟩
    rw [r.length, r'.length]
    omega
end
def mSeq : D → Sto → Option (List D)
  | .tup l, _ => some l
  | .lst l, _ => some l
  | .ro l, _ => some l
  | _, _ => none
def gSeq (f : G D) : G (List D) := fun ρ st => (f ρ st).bind fun d s1 => oout (mSeq d s1) s1
def intsD (lo : Int) (n : Nat) : List D := (List.range n).map fun i : Nat => D.int (lo + (i : Int))
def mRange1 : List D → Option (List D)
  | [.int n] => if n ≤ 1000000 ∧ -1000000 ≤ n then some (intsD 0 n.toNat) else none
  | _ => none
def mRange2 : List D → Option (List D)
  | [.int a, .int b] => if (-1000000 ≤ a ∧ a ≤ 1000000) ∧ (-1000000 ≤ b ∧ b ≤ 1000000) then some (intsD a (b - a).toNat) else none
  | _ => none
def gRange1 (f : G (List D)) : G (List D) := fun ρ st => (f ρ st).bind fun d s1 => oout (mRange1 d) s1
def gRange2 (f : G (List D)) : G (List D) := fun ρ st => (f ρ st).bind fun d s1 => oout (mRange2 d) s1
def mZip : List D → Option (List D)
  | [.tup a, .tup b] => some (zipD a b)
  | _ => none
def gZip (f : G (List D)) : G (List D) := fun ρ st => (f ρ st).bind fun d s1 => oout (mZip d) s1
section
variable {X : Cx} {W : WX} {tg : Expr}
def iSeq (K : PySem.W.Frag) (tl : TE) : TI := fun σ H R => tl σ H fun x H1 => ∃ a, x = .ref a ∧ ((∃ xs, SqL K H1 a xs ∧ R (Itl K a) H1) ∨ (∃ xs, SqT K H1 a xs ∧ R (Itt K a) H1))
theorem pi_seq {l : Expr} {tl : TE} (hl : PE X l tl) : PI X tg l (iSeq X.K tl) := by
  refine ⟨fun pins s σ H R I h => ?_⟩
  refine thn (hl.run pins s σ H _ I h) fun v s1 ⟨x, H1, I1, r1, q1⟩ => ?_
  obtain ⟨a, e, q1⟩ := q1
  subst e
  cases r1
  have fr : ∀ b, b ∈ [s1.heap.objs.size] → FpOk X pins H1 b := fun b hb => by
    have e : b = s1.heap.objs.size := by simpa using hb
    subst e
    exact I1.fpOk (Nat.le_refl _) (I1.hok.fresh (Nat.le_refl _))
  rcases q1 with ⟨xs, hq, q⟩ | ⟨xs, hq, q⟩
  · obtain ⟨its, rv, p, hz⟩ := I1.list hq
    refine wpAny_pyIter_list p.isList ?_
    exact ⟨s1.heap.objs.size, [s1.heap.objs.size], _, _, H1, rfl, I1.kept (t' := s1.toks) fun b o e => Heap.get?_push_of_some _ e, turn_list a _, ⟨_, Heap.get?_push_size _ rfl, rfl, rfl⟩, fr, q⟩
  · obtain ⟨its, rv, p, hz⟩ := I1.tuple hq
    refine wpAny_pyIter_tuple (show s1.heap.IsTuple a its.toArray from p) ?_
    exact ⟨s1.heap.objs.size, [s1.heap.objs.size], _, _, H1, rfl, I1.kept (t' := s1.toks) fun b o e => Heap.get?_push_of_some _ e, turn_tuple a _, ⟨_, Heap.get?_push_size _ rfl, rfl, rfl⟩, fr, q⟩
theorem di_seq {l : Expr} {f : G D} (h : DE X W l f) : DI X W tg l (gSeq f) := by
  refine PImono (pi_seq h) fun σ H R h => ?_
  obtain ⟨β, ρ, st, hρ, hs, h⟩ := h
  refine tD_intro hρ hs (Out.sat_bind h) (fun d s1 h1 v β1 H1 e1 S1 r1 => ?_) fun _ _ q => q
  obtain ⟨l, q, p⟩ := oout_sat h1
  cases d <;> simp only [mSeq, reduceCtorEq, Option.some.injEq] at q
  case tup m => subst q; cases r1 with | tup h1 h2 h3 => exact ⟨_, rfl, .inr ⟨_, h1, p _ β1 H1 e1 S1 (itd_t h1 h2) h3⟩⟩
  case lst m => subst q; cases r1 with | lst h1 hn h2 h3 => exact ⟨_, rfl, .inl ⟨_, SqL.of h1, p _ β1 H1 e1 S1 (itd_l (fun β' H' e => SqL.of (e.lst _ _ h1 hn).1) h2) h3⟩⟩
  case ro m => subst q; cases r1 with | ro h1 h2 h3 => exact ⟨_, rfl, .inl ⟨_, h1.sqL, p _ β1 H1 e1 S1 (itd_l (fun β' H' e => (e.sqR h1).sqL) h2) h3⟩⟩
theorem di_range1 {a : Expr} {fs : G (List D)} {p pos : Pos} (hg : Gl X "range") (hm : X.mg "range" = none) (ha : DA X W [a] fs) (hs : starEach [a] X.env = [(false, eval a X.env)] := by rfl) : DI X W tg (.Call (.Name "range" p) [a] [] pos) (gRange1 fs) := by
  refine PImono (pi_range1 hg hm ha hs) fun σ H R h => ?_
  obtain ⟨β, ρ, st, hρ, hs, h⟩ := h
  refine tDA_intro hρ hs (Out.sat_bind h) (fun d s1 h1 v β1 H1 e1 S1 r1 => ?_) fun _ _ q => q
  obtain ⟨l, q, p⟩ := oout_sat h1
  unfold mRange1 at q
  split at q
  · rename_i n
    split at q
    · rename_i hz
      cases q
      obtain ⟨v, rfl, r⟩ := r1.one
      cases r
      exact ⟨n, rfl, by omega, by omega, p _ β1 H1 e1 S1 (itd_r 0 n.toNat) (by show ((List.range n.toNat).map fun i : Nat => D.int (0 + (i : Int))).length ≤ _; rw [List.length_map, List.length_range]; exact leLIM (by show n.toNat ≤ 1000000; omega))⟩
    · cases q
  · cases q
theorem di_range2 {a b : Expr} {fs : G (List D)} {p pos : Pos} (hg : Gl X "range") (hm : X.mg "range" = none) (ha : DA X W [a, b] fs) (hs : starEach [a, b] X.env = [(false, eval a X.env), (false, eval b X.env)] := by rfl) (hs2 : starEach [b] X.env = [(false, eval b X.env)] := by rfl) : DI X W tg (.Call (.Name "range" p) [a, b] [] pos) (gRange2 fs) := by
  refine PImono (pi_range2 hg hm ha hs hs2) fun σ H R h => ?_
  obtain ⟨β, ρ, st, hρ, hs, h⟩ := h
  refine tDA_intro hρ hs (Out.sat_bind h) (fun d s1 h1 v β1 H1 e1 S1 r1 => ?_) fun _ _ q => q
  obtain ⟨l, q, p⟩ := oout_sat h1
  unfold mRange2 at q
  split at q
  · rename_i n m
    split at q
    · rename_i hz
      cases q
      obtain ⟨v, w, rfl, r, r'⟩ := r1.two
      cases r
      cases r'
      exact ⟨n, m, rfl, by omega, p _ β1 H1 e1 S1 (itd_r n (m - n).toNat) (by show ((List.range (m - n).toNat).map fun i : Nat => D.int (n + (i : Int))).length ≤ _; rw [List.length_map, List.length_range, sizeLine_eq]; omega)⟩
    · cases q
  · cases q
theorem di_zip {e e2 : Expr} {fs : G (List D)} {elts : List Expr} {kk : Nat} {tpos p pos : Pos} (hg : Gl X "zip") (hm : X.mg "zip" = none) (ha : DA X W [e, e2] fs) (hs : starEach [e, e2] X.env = (false, eval e X.env) :: starEach [e2] X.env := by rfl) (hpl : (backTo pos (starEach [e2] X.env)).any (·.1) = false := by rfl) :
    DI X W (.Tuple elts kk tpos) (.Call (.Name "zip" p) [e, e2] [] pos) (gZip fs) := by
  refine PImono (RZ.pi_zipA hg hm ha hs hpl) fun σ H R h => ?_
  obtain ⟨β, ρ, st, hρ, hs, h⟩ := h
  refine tDA_intro hρ hs (Out.sat_bind h) (fun d s1 h1 v β1 H1 e1 S1 r1 => ?_) fun _ _ q => q
  obtain ⟨l, q, p⟩ := oout_sat h1
  unfold mZip at q
  split at q
  · rename_i a b
    cases q
    obtain ⟨v, w, rfl, r, r'⟩ := r1.two
    cases r with
    | tup h1 h2 h3 =>
      cases r' with
      | tup g1 g2 g3 => exact ⟨_, _, _, _, rfl, .inr ⟨h1, g1, p _ β1 H1 e1 S1 (itd_zt h1 g1 h2 g2) (by rw [zipD_len]; omega)⟩⟩
  · cases q

/-! ### list comprehensions -/
def Out.nox {α : Type} (o : Out α) : Out α := match o with
  | .exn _ _ => .bad
  | o => o
theorem Out.nox_sat {α : Type} {o : Out α} {P : α → Sto → Prop} {E E' : Exn → Sto → Prop} (h : o.nox.sat P E) : o.sat P E' := by
  cases o with
  | ok a st => exact h
  | exn x st => exact h.elim
  | bad => exact h
def compGo (ρ : Env) (p : Pat) (t : G Bool) (e : G D) : List D → Sto → Out (List D)
  | [], st => .ok [] st
  | d :: ds, st => match Pat.set p d ρ with
    | none => .bad
    | some ρ1 => (t ρ1 st).nox.bind fun b s1 => if b then (e ρ1 s1).nox.bind fun y s2 => (compGo ρ p t e ds s2).bind fun ys s3 => .ok (y :: ys) s3 else compGo ρ p t e ds s1
def gComp (vs : List Nat) (f : G (List D)) (p : Pat) (t : G Bool) (e : G D) : G D := fun ρ st => (f ρ st).bind fun items s1 => (compGo (wipeE ρ vs) p t e items s1).bind fun ys s2 => .ok (.lst ys) s2
def gYes : G Bool := fun _ st => .ok true st
abbrev WF : WX := fun _ _ _ _ => False
abbrev DTs (X : Cx) (W : WX) (ifs : List Expr) (f : G Bool) : Prop := PTs X ifs (tDT (zOf X) X.mg W f)
theorem dts_nil : DTs X W [] gYes := by
  have h := pts_nil (X := X)
  obtain ⟨r⟩ := h
  refine ⟨fun pins s σ H Q I q => r pins s σ H Q I ?_⟩
  obtain ⟨β, ρ, st, hρ, hs, h⟩ := q
  exact h β H (Ext.refl β H) hs
theorem dts_one {c : Expr} {t : G Bool} (h : DT X W c t) : DTs X W [c] t := pts_one h
theorem compGo_len {ρ : Env} {p : Pat} {t : G Bool} {e : G D} : ∀ {ds : List D} {st : Sto} {ys : List D} {st' : Sto}, compGo ρ p t e ds st = .ok ys st' → ys.length ≤ ds.length
  | [], st, ys, st', h => by
    simp only [compGo, Out.ok.injEq] at h
    rw [← h.1]
    exact Nat.zero_le _
  | d :: ds, st, ys, st', h => by
    simp only [compGo] at h
    split at h
    · cases h
    · cases q : (t _ st).nox with
      | bad => rw [q] at h; cases h
      | exn x s => rw [q] at h; cases h
      | ok b s1 =>
        rw [q] at h
        simp only [Out.bind_ok] at h
        split at h
        · cases q2 : (e _ s1).nox with
          | bad => rw [q2] at h; cases h
          | exn x s => rw [q2] at h; cases h
          | ok y s2 =>
            rw [q2] at h
            simp only [Out.bind_ok] at h
            cases q3 : compGo ρ p t e ds s2 with
            | bad => rw [q3] at h; cases h
            | exn x s => rw [q3] at h; cases h
            | ok zs s3 =>
              rw [q3] at h
              simp only [Out.bind_ok, Out.ok.injEq] at h
              have := compGo_len q3
              rw [← h.1, List.length_cons, List.length_cons]
              omega
        · have := compGo_len h
          rw [List.length_cons]
          omega
/-- the loop of a comprehension, told by data; fin: what is wanted of the whole list at D', which the machine still holds -/
theorem lc_d {K : Zx} {mg : Str → Option Value} {vs : List Nat} {p : Pat} {t : G Bool} {e : G D} {σ : L2.St} {ρ : Env} {items : List D} {J : It} {β1 : Bx} {H1 : Hp} {s1 : Sto} {R : Addr → Hp → Prop} (hsl : ∀ i ∈ p.slots, i ∈ vs) (hl : items.length ≤ sizeLine)
    (hρ : RepEnv K β1 H1 σ ρ) (S1 : StoOk K β1 H1 s1) (it : ItD K β1 H1 J items) {D' : Addr} (hD : H1 D' = none)
    (fin : (compGo (wipeE ρ vs) p t e items s1).sat (fun ys s2 => ∀ β2 H2 xs, Ext (β1.hold D') (upd H1 D' (.lst xs)) β2 H2 → StoOk K β2 H2 s2 → H2 D' = some (.lst xs) → Reps K β2 H2 xs ys → ys.length ≤ sizeLine → R D' H2) (fun _ _ => False)) :
    ∃ Wi : Nat → Nat → Hp → Prop, (∃ m, Wi 0 m (upd H1 D' (.lst []))) ∧ ∀ i m H, Wi i m H →
      (J.stop i H ∧ R D' H) ∨ (J.go i H ∧ ∃ Nx : Hp → Prop, (∀ H', Nx H' → ∃ m', m' < m ∧ Wi (i + 1) m' H') ∧ ∀ x H', J.yld i H x H' → p.tg K x (L2.wipe σ vs) H' fun σ2 H2 => L2.wipe σ2 vs = L2.wipe σ vs ∧ tDT K mg WF t σ2 H2 fun b H3 =>
        if b = true then tD K mg WF e σ2 H3 fun y H4 => ∃ acc, H4 D' = some (.lst acc) ∧ acc.length < sizeLine ∧ Nx (upd H4 D' (.lst (acc ++ [y]))) else Nx H3) := by
  have mv0 : Mv β1 H1 (β1.hold D') (upd H1 D' (.lst [])) := Mv.hold hD
  -- the invariant: behind i items acc is made, the rest makes the whole
  let Iv : Nat → Hp → Prop := fun i H => i ≤ items.length ∧ ∃ β st acc ad, Ext (β1.hold D') (upd H1 D' (.lst acc)) β H ∧ StoOk K β H st ∧ H D' = some (.lst acc) ∧ Reps K β H acc ad ∧ ad.length ≤ i ∧
    (compGo (wipeE ρ vs) p t e (items.drop i) st).sat (fun ys s2 => ∀ β2 H2 xs, Ext (β1.hold D') (upd H1 D' (.lst xs)) β2 H2 → StoOk K β2 H2 s2 → H2 D' = some (.lst xs) → Reps K β2 H2 xs (ad ++ ys) → (ad ++ ys).length ≤ sizeLine → R D' H2) (fun _ _ => False)
  have inLo : ∀ {β : Bx} {H : Hp} {acc : List V}, Ext (β1.hold D') (upd H1 D' (.lst acc)) β H → D' ∈ β.pv ∧ D' ∉ β.lo := fun {β H acc} ex => by
    refine ⟨by rw [ex.pv]; exact List.mem_cons_self, fun z => ?_⟩
    obtain ⟨new, e1, f⟩ := ex.pre
    rw [e1] at z
    rcases List.mem_append.mp z with z | z
    · exact (S1.nmem hD).1 z
    · obtain ⟨ps, q⟩ := f D' z (.lst acc) (by rw [upd_same])
      cases q
  refine ⟨fun i m H => m = items.length - i ∧ Iv i H, ⟨items.length, by simp, Nat.zero_le _, β1.hold D', s1, [], [], Ext.refl _ _, S1.hold hD, upd_same, .nil, Nat.le_refl _, by simpa using fin⟩, ?_⟩
  rintro i m H ⟨rfl, hi, β, st, acc, ad, ex, S, hA, ra, la, go⟩
  have mvh : Mv β1 H1 β H := (Mv.hold (o := .lst acc) hD).trans ex.mv
  by_cases hlt : i < items.length
  · refine .inr ⟨it.go _ H i mvh hlt, fun H' => Iv (i + 1) H', fun H' hq => ⟨items.length - (i + 1), by omega, rfl, hq⟩, fun x H' hy => ?_⟩
    have hd : items[i]? = some items[i] := List.getElem?_eq_getElem hlt
    obtain ⟨sm, rx⟩ := it.yld _ H i x H' items[i] mvh hd hy
    have hdrop : items.drop i = items[i] :: items.drop (i + 1) := List.drop_eq_getElem_cons hlt
    rw [hdrop] at go
    simp only [compGo] at go
    split at go
    · exact go.elim
    · rename_i ρ1 hset
      have ex2 : Ext (β1.hold D') (upd H1 D' (.lst acc)) β H' := ex.trans (Ext.same sm)
      have mv1 : Mv β1 H1 β H' := (Mv.hold (o := .lst acc) hD).trans ex2.mv
      have hρ' : RepEnv K β H' (L2.wipe σ vs) (wipeE ρ vs) := RepEnv.wipe ⟨hρ.1, fun j d q => by
        obtain ⟨v, h1, h2⟩ := hρ.2 j d q
        exact ⟨v, h1, Rep.move mv1 _ _ h2⟩⟩ vs
      refine pat_ok p x items[i] _ _ ρ1 _ rx hset hρ' fun σ2 hσ2 k2 l2 => ⟨?_, ?_⟩
      · refine (wipe_same l2 fun j hj => k2 j fun z => hj (hsl j z)).trans ?_
        refine wipe_same (by rw [wipe_length]) fun j hj => ?_
        rw [wipe_get, if_neg hj]
      · have S' := S.same sm
        have hA' : H' D' = some (.lst acc) := sm _ _ hA
        refine ⟨β, ρ1, st, hσ2, S', (Out.nox_sat (Out.sat_bind go)).mono (E := fun _ _ => False) (fun b s2 hb β3 H3 e3 S3 => ?_) fun _ _ z => z.elim⟩
        have hA3 : H3 D' = some (.lst acc) := e3.keep _ _ (inLo ex).2 hA' fun ps z => by cases z
        have ex3 := ex2.trans e3
        have ra3 : Reps K β3 H3 acc ad := Reps.ext ((Ext.same sm).trans e3) _ _ ra
        cases b with
        | false => exact ⟨hlt, β3, s2, acc, ad, ex3, S3, hA3, ra3, Nat.le_succ_of_le la, hb⟩
        | true =>
          rw [if_pos rfl] at hb
          refine ⟨β3, ρ1, s2, hσ2.ext e3, S3, (Out.nox_sat (Out.sat_bind hb)).mono (E := fun _ _ => False) (fun y s4 hy4 v4 β4 H4 e4 S4 r4 => ?_) fun _ _ z => z.elim⟩
          have hA4 : H4 D' = some (.lst acc) := e4.keep _ _ (inLo ex3).2 hA3 fun ps z => by cases z
          have ex4 := ex3.trans e4
          have ra4 : Reps K β4 H4 acc ad := Reps.ext e4 _ _ ra3
          have hal : acc.length ≤ i := by rw [ra4.length]; exact la
          refine ⟨acc, hA4, by omega, hlt, β4, s4, acc ++ [v4], ad ++ [y], ?_, S4.poke (inLo ex4).1 (inLo ex4).2 hA4, upd_same, ?_, by rw [List.length_append]; simpa using la, ?_⟩
          · exact Ext.poke hD ex4 hA4
          · exact Reps.move (Mv.poke (inLo ex4).1 hA4) _ _ (ra4.append (.cons r4 .nil))
          · refine (Out.sat_bind hy4).mono (fun ys s5 h5 β5 H5 xs e5 S5 hA5 r5 l5 => ?_) fun _ _ z => z
            exact h5 β5 H5 xs e5 S5 hA5 (by simpa using r5) (by simpa using l5)
  · have e0 : i = items.length := by omega
    subst e0
    refine .inl ⟨it.stop _ H _ mvh (Nat.le_refl _), ?_⟩
    rw [List.drop_length] at go
    exact go β H acc ex S hA (by simpa using ra) (by simp only [List.append_nil]; omega)
end
end DL

set_option Elab.async false
set_option linter.all false
set_option maxRecDepth 100000
set_option maxHeartbeats 2000000
namespace DL
open PySem PySem.Spec L2
open PyProof.Rows hiding St

theorem bind_ex {α β : Type} {o : Out α} {k : α → Sto → Out β} {x : Exn} {s : Sto} (h : o.bind k = .exn x s) : o = .exn x s ∨ ∃ a s1, o = .ok a s1 ∧ k a s1 = .exn x s := by
  cases o with
  | ok a s1 => exact .inr ⟨a, s1, rfl, h⟩
  | exn y s1 => exact .inl (by cases h; rfl)
  | bad => cases h
theorem nox_ex {α : Type} {o : Out α} {x : Exn} {s : Sto} (h : o.nox = .exn x s) : False := by
  cases o <;> cases h
theorem compGo_ex {ρ : Env} {p : Pat} {t : G Bool} {e : G D} {x : Exn} {s : Sto} : ∀ {ds : List D} {st : Sto}, compGo ρ p t e ds st ≠ .exn x s
  | [], st, h => by cases h
  | d :: ds, st, h => by
    simp only [compGo] at h
    split at h
    · cases h
    · rcases bind_ex h with h | ⟨b, s1, _, h⟩
      · exact nox_ex h
      · split at h
        · rcases bind_ex h with h | ⟨y, s2, _, h⟩
          · exact nox_ex h
          · rcases bind_ex h with h | ⟨ys, s3, _, h⟩
            · exact compGo_ex h
            · cases h
        · exact compGo_ex h
theorem sat_noex {α : Type} {o : Out α} {P : α → Sto → Prop} {E E' : Exn → Sto → Prop} (h : o.sat P E) (n : ∀ x s, o ≠ .exn x s) : o.sat P E' := by
  cases o with
  | ok a st => exact h
  | exn x st => exact absurd rfl (n x st)
  | bad => exact h
/-- .. the list is one that is written -/
def gCompM (vs : List Nat) (f : G (List D)) (p : Pat) (t : G Bool) (e : G D) : G D := fun ρ st => (f ρ st).bind fun items s1 => (compGo (wipeE ρ vs) p t e items s1).bind fun ys s2 => .ok (.ref s2.length) (s2 ++ [.lst ys])
section
variable {X : Cx} {W : WX} {pos : Pos} {elt tg iter : Expr} {ifs : List Expr} {scope : Scope} {own : List (Str × Nat)} {fi : G (List D)} {p : Pat} {t : G Bool} {e : G D}
theorem inLo_of {K : Zx} {β1 β : Bx} {H1 H : Hp} {s1 : Sto} {D' : Addr} {ys : List V} (S1 : StoOk K β1 H1 s1) (hD : H1 D' = none) (ex : Ext (β1.hold D') (upd H1 D' (.lst ys)) β H) : D' ∉ β.lo := fun z => by
  obtain ⟨new, e1, f⟩ := ex.pre
  rw [e1] at z
  rcases List.mem_append.mp z with z | z
  · exact (S1.nmem hD).1 z
  · obtain ⟨ps, q⟩ := f D' z (.lst ys) (by rw [upd_same])
    cases q
theorem tLc_of {K : Zx} {mg : Str → Option Value} {vs : List Nat} {σ : L2.St} {H : Hp} {Q : VK} (hsl : ∀ i ∈ p.slots, i ∈ vs) (h : tD K mg W (gComp vs fi p t e) σ H Q) : tLc (tDI K mg W fi) (p.tg K) (tDT K mg WF t) (tD K mg WF e) vs σ H Q := by
  obtain ⟨β, ρ, st, hρ, hs, h⟩ := h
  refine ⟨β, ρ, st, hρ, hs, (Out.sat_bind h).mono (fun items s1 h1 J β1 H1 e1 S1 it hl D' hD => ?_) fun _ _ q => q⟩
  refine lc_d (R := fun D H => Q (.ref D) H) hsl hl (hρ.ext e1) S1 it hD ((sat_noex (Out.sat_bind h1) (fun _ _ => compGo_ex)).mono (fun ys s2 p2 β2 H2 xs ex S2 hA r2 l2 => ?_) fun _ _ z => z)
  have hs' : ∀ a ∈ β1.pv, a ∈ β2.pv := fun a ha => by rw [ex.pv]; exact List.mem_cons_of_mem _ ha
  exact p2 (.ref D') (β2.back β1.pv) H2 (e1.trans (Ext.held hD ex)) (S2.back hs') (.lst hA ⟨show D' ∉ β2.lo from inLo_of S1 hD ex, (S1.nmem hD).2⟩ (Reps.move (Mv.back hs') _ _ r2) l2)
theorem tLc_ofM {K : Zx} {mg : Str → Option Value} {vs : List Nat} {σ : L2.St} {H : Hp} {Q : VK} (hsl : ∀ i ∈ p.slots, i ∈ vs) (h : tD K mg W (gCompM vs fi p t e) σ H Q) : tLc (tDI K mg W fi) (p.tg K) (tDT K mg WF t) (tD K mg WF e) vs σ H Q := by
  obtain ⟨β, ρ, st, hρ, hs, h⟩ := h
  refine ⟨β, ρ, st, hρ, hs, (Out.sat_bind h).mono (fun items s1 h1 J β1 H1 e1 S1 it hl D' hD => ?_) fun _ _ q => q⟩
  refine lc_d (R := fun D H => Q (.ref D) H) hsl hl (hρ.ext e1) S1 it hD ((sat_noex (Out.sat_bind h1) (fun _ _ => compGo_ex)).mono (fun ys s2 p2 β2 H2 xs ex S2 hA r2 l2 => ?_) fun _ _ z => z)
  have hs' : ∀ a ∈ β1.pv, a ∈ β2.pv := fun a ha => by rw [ex.pv]; exact List.mem_cons_of_mem _ ha
  have hb := S2.back hs'
  have nl := inLo_of S1 hD ex
  have np := (S1.nmem hD).2
  have eh := Ext.held hD ex
  -- D' becomes the next of the written things
  have mv : Mv (β2.back β1.pv) H2 ((β2.back β1.pv).add D') H2 → True := fun _ => trivial
  have mvx : Mv β2 H2 ((β2.back β1.pv).add D') H2 := by
    have hp : D' ∈ β2.pv := by rw [ex.pv]; exact List.mem_cons_self
    refine ⟨fun a xs' ha n => ⟨ha, fun z => ?_, fun z => n.2 (hs' a z)⟩, fun _ _ q => q, fun _ _ _ q => q, fun n a q => ?_, fun _ _ q => q⟩
    · rcases List.mem_append.mp z with z | z
      · exact n.1 z
      · rw [List.mem_singleton.mp z] at n
        exact n.2 hp
    · show (β2.lo ++ [D'])[n]? = some a
      rw [List.getElem?_append_left (List.getElem?_eq_some_iff.mp q).1]
      exact q
  have So : StoOk K ((β2.back β1.pv).add D') H2 (s2 ++ [.lst ys]) := by
    refine ⟨by simp [Bx.add, Bx.back, S2.len], ?_, fun n a u q1 q2 => ?_, fun q hq => hb.priv q hq⟩
    · exact List.nodup_append.mpr ⟨S2.nd, by simp, fun x hx y hy => by rw [List.mem_singleton.mp hy]; exact fun z => nl (z ▸ hx)⟩
    · have q1 : (β2.lo ++ [D'])[n]? = some a := q1
      by_cases hn : n < β2.lo.length
      · rw [List.getElem?_append_left hn] at q1
        rw [List.getElem?_append_left (by rw [← S2.len]; exact hn)] at q2
        exact (S2.obj n a u q1 q2).move mvx fun _ z => z
      · have hn' : n = β2.lo.length := by
          have := (List.getElem?_eq_some_iff.mp q1).1
          simp at this
          omega
        subst hn'
        rw [List.getElem?_append_right (Nat.le_refl _)] at q1
        rw [S2.len, List.getElem?_append_right (Nat.le_refl _)] at q2
        simp at q1 q2
        subst q1 q2
        exact ⟨xs, hA, Reps.move mvx _ _ r2⟩
  refine p2 (.ref D') ((β2.back β1.pv).add D') H2 (e1.trans ?_) So (.ref ?_)
  · obtain ⟨new, z1, z2⟩ := eh.pre
    refine ⟨⟨new ++ [D'], ?_, fun q hq => ?_⟩, rfl, eh.keep, eh.tup, eh.frz, eh.dom, eh.cod⟩
    · show β2.lo ++ [D'] = β1.lo ++ (new ++ [D'])
      rw [← List.append_assoc, ← z1]
      rfl
    · rcases List.mem_append.mp hq with hq | hq
      · exact z2 q hq
      · rw [List.mem_singleton.mp hq]; exact Free.none hD
  · show (β2.lo ++ [D'])[s2.length]? = some D'
    rw [← S2.len]
    simp
theorem de_comp (hc : X.calm = true) (hN : X.N.Nodup) (hi : DI X W tg iter fi) (ok : BlkOk X.N X.env.scope scope own) (hsl : ∀ i ∈ p.slots, i ∈ own.map (·.2))
    (hg : ∀ (s : Shared) (H : Hp) (C : Addr) (cl : List (Str × Addr)) (fp : List Addr), DG (X.blk s H scope (compEnvC scope cl C X.env) fp) tg p) (ht : ∀ (s : Shared) (H : Hp) (C : Addr) (cl : List (Str × Addr)) (fp : List Addr), DTs (X.blk s H scope (compEnvC scope cl C X.env) fp) WF ifs t)
    (he : ∀ (s : Shared) (H : Hp) (C : Addr) (cl : List (Str × Addr)) (fp : List Addr), DE (X.blk s H scope (compEnvC scope cl C X.env) fp) WF elt e) (hs : ∀ x, foldedSetIterable iter X.env x = pure x := by intro _; rfl) :
    DE X W (.ListComp elt [⟨tg, iter, ifs, 0⟩] scope pos) (gComp (own.map (·.2)) fi p t e) :=
  PEmono (pe_lc hc hN hi ok hg ht he hs) fun _ _ _ h => tLc_of hsl h
theorem de_compM (hc : X.calm = true) (hN : X.N.Nodup) (hi : DI X W tg iter fi) (ok : BlkOk X.N X.env.scope scope own) (hsl : ∀ i ∈ p.slots, i ∈ own.map (·.2))
    (hg : ∀ (s : Shared) (H : Hp) (C : Addr) (cl : List (Str × Addr)) (fp : List Addr), DG (X.blk s H scope (compEnvC scope cl C X.env) fp) tg p) (ht : ∀ (s : Shared) (H : Hp) (C : Addr) (cl : List (Str × Addr)) (fp : List Addr), DTs (X.blk s H scope (compEnvC scope cl C X.env) fp) WF ifs t)
    (he : ∀ (s : Shared) (H : Hp) (C : Addr) (cl : List (Str × Addr)) (fp : List Addr), DE (X.blk s H scope (compEnvC scope cl C X.env) fp) WF elt e) (hs : ∀ x, foldedSetIterable iter X.env x = pure x := by intro _; rfl) :
    DE X W (.ListComp elt [⟨tg, iter, ifs, 0⟩] scope pos) (gCompM (own.map (·.2)) fi p t e) :=
  PEmono (pe_lc hc hN hi ok hg ht he hs) fun _ _ _ h => tLc_ofM hsl h
end

/-! ### statements -/
theorem xs_x {K : Zx} {mg : Str → Option Value} {W : WX} {β : Bx} {H : Hp} {σ : L2.St} {x : Exn} {st : Sto} (p : PostXS K mg W β H x st) : PostX K mg (fun c d H' => W c d σ H') β H x st := fun c d β' H' e S r => p c d σ β' H' e S r
theorem PostXS.ext {K : Zx} {mg : Str → Option Value} {W : WX} {β β' : Bx} {H H' : Hp} {x : Exn} {st : Sto} (p : PostXS K mg W β H x st) (e : Ext β H β' H') : PostXS K mg W β' H' x st := fun c d σ β2 H2 e2 => p c d σ β2 H2 (e.trans e2)
theorem PostF.ext {K : Zx} {D' : Ends} {β β' : Bx} {H H' : Hp} {f : Fl} {st : Sto} (p : PostF K D' β H f st) (e : Ext β H β' H') : PostF K D' β' H' f st := by
  cases f with
  | nx ρ => exact fun σ β2 H2 e2 => p σ β2 H2 (e.trans e2)
  | rt d => exact fun v β2 H2 e2 => p v β2 H2 (e.trans e2)
  | bk ρ => exact fun σ β2 H2 e2 => p σ β2 H2 (e.trans e2)
  | ct ρ => exact fun σ β2 H2 e2 => p σ β2 H2 (e.trans e2)
def sSet (i : Nat) (f : G D) : G Fl := fun ρ st => (f ρ st).bind fun d s1 => .ok (.nx (ρ.set i (some d))) s1
def sPat (p : Pat) (f : G D) : G Fl := fun ρ st => (f ρ st).bind fun d s1 => match Pat.set p d ρ with
  | some ρ' => .ok (.nx ρ') s1
  | none => .bad
def sPar (i j : Nat) (f : G (List D)) : G Fl := fun ρ st => (f ρ st).bind fun ds s1 => match ds with
  | [a, b] => .ok (.nx ((ρ.set i (some a)).set j (some b))) s1
  | _ => .bad
def sRet (f : G D) : G Fl := fun ρ st => (f ρ st).bind fun d s1 => .ok (.rt d) s1
def sDrop (f : G D) : G Fl := fun ρ st => (f ρ st).bind fun _ s1 => .ok (.nx ρ) s1
def sNext : G Fl := fun ρ st => .ok (.nx ρ) st
def sBreak : G Fl := fun ρ st => .ok (.bk ρ) st
def sCont : G Fl := fun ρ st => .ok (.ct ρ) st
def sBad : G Fl := fun _ _ => .bad
def sSeq (f g : G Fl) : G Fl := fun ρ st => (f ρ st).bind fun r s1 => match r with
  | .nx ρ' => g ρ' s1
  | r => .ok r s1
def sIf (t : G Bool) (f g : G Fl) : G Fl := fun ρ st => (t ρ st).bind fun k s1 => if k then f ρ s1 else g ρ s1
def sAug (m : D → D → Sto → Option D) (i : Nat) (f : G D) : G Fl := fun ρ st => (gVar i ρ st).bind fun x s0 => (f ρ s0).bind fun d s1 => (oout (m x d s1) s1).bind fun z s1 => .ok (.nx (ρ.set i (some z))) s1
def forGo (p : Pat) (b : G Fl) : List D → Env → Sto → Out Fl
  | [], ρ, st => .ok (.nx ρ) st
  | d :: ds, ρ, st => match Pat.set p d ρ with
    | none => .bad
    | some ρ1 => (b ρ1 st).bind fun r s1 => match r with
      | .nx ρ' => forGo p b ds ρ' s1
      | .ct ρ' => forGo p b ds ρ' s1
      | .bk ρ' => .ok (.nx ρ') s1
      | .rt d => .ok (.rt d) s1
def sFor (f : G (List D)) (p : Pat) (b : G Fl) : G Fl := fun ρ st => (f ρ st).bind fun items s1 => forGo p b items ρ s1
section
variable {X : Cx} {W : WX} {pos : Pos} {a b c e tg iter : Expr} {es : List Expr} {f g : G D} {t : G Bool} {fs : G (List D)} {st : Stmt} {rest : List Stmt} {u v : G Fl}
theorem ds_set (i : Nat) {x : Str} {pos' : Pos} (hN : X.N.Nodup) (hi : X.N[i]? = some x) (hx : Loc X.env.scope x) (he : DE X W e f) (hs : swapsWith e (some (.Name x pos')) pos.line X.env = pure false := by rfl)
    (hf : X.fn x = true ∨ X.env.scope.names.lookup x = some .local := by first | exact .inl rfl | exact .inr rfl | assumption) : DS X W (.Assign [.Name x pos'] e pos) (sSet i f) := by
  refine PSmono (ps_set hN hi hx he hs hf) fun D' σ H h => ?_
  obtain ⟨β, ρ, st, hρ, hs, h⟩ := h
  refine tD_intro hρ hs (Out.sat_bind h) (fun d s1 h1 v β1 H1 e1 S1 r1 => ?_) fun _ _ q => xs_x q
  exact h1 _ β1 H1 e1 S1 ((hρ.ext e1).set i r1)
theorem ds_pat {p : Pat} (he : DE X W e f) (hg : DG X tg p) (hs : swapsWithSole [tg] e pos.line X.env = pure false := by rfl) (hw : swappedStores [tg] e X.env = pure none := by rfl)
    (h1 : (assignEach [tg] X.env).map (·.2) = [assign tg X.env] := by rfl) : DS X W (.Assign [tg] e pos) (sPat p f) := by
  refine PSmono (ps_asg he hg hs hw h1) fun D' σ H h => ?_
  obtain ⟨β, ρ, st, hρ, hs, h⟩ := h
  refine tD_intro hρ hs (Out.sat_bind h) (fun d s1 h1 v β1 H1 e1 S1 r1 => ?_) fun _ _ q => xs_x q
  split at h1
  · rename_i ρ' hp
    exact pat_ok p v d σ ρ ρ' _ r1 hp (hρ.ext e1) fun σ' hσ' _ _ => h1 σ' β1 H1 e1 S1 hσ'
  · exact h1.elim
theorem ds_par {i j : Nat} {x y : Str} {px py pt : Pos} {kt k2 pt2} (hc : X.calm = true) (hN : X.N.Nodup) (hi : X.N[i]? = some x) (hj : X.N[j]? = some y) (hij : i ≠ j)
    (hx : X.env.scope.names.lookup x = some .local) (hy : X.env.scope.names.lookup y = some .local) (ha : DA X W [a, b] fs)
    (hw : swappedStores [.Tuple [.Name x px, .Name y py] kt pt] (.Tuple [a, b] k2 pt2) X.env = pure (some [x, y]))
    (hs : swapsWithSole [.Tuple [.Name x px, .Name y py] kt pt] (.Tuple [a, b] k2 pt2) pos.line X.env = pure false := by rfl) :
    DS X W (.Assign [.Tuple [.Name x px, .Name y py] kt pt] (.Tuple [a, b] k2 pt2) pos) (sPar i j fs) := by
  refine PSmono (ps_par hc hN hi hj hij hx hy ha hw hs) fun D' σ H h => ?_
  obtain ⟨β, ρ, st, hρ, hs, h⟩ := h
  refine tDA_intro hρ hs (Out.sat_bind h) (fun ds s1 h1 vs β1 H1 e1 S1 r1 => ?_) fun _ _ q => xs_x q
  split at h1
  · rename_i d1 d2
    obtain ⟨v, w, rfl, q1, q2⟩ := r1.two
    exact ⟨v, w, rfl, h1 _ β1 H1 e1 S1 (((hρ.ext e1).set i q1).set j q2)⟩
  · exact h1.elim
theorem ds_ret (he : DE X W e f) : DS X W (.Return (some e) pos) (sRet f) := by
  refine PSmono (ps_ret he) fun D' σ H h => ?_
  obtain ⟨β, ρ, st, hρ, hs, h⟩ := h
  exact tD_intro hρ hs (Out.sat_bind h) (fun d s1 h1 v β1 H1 e1 S1 r1 => h1 v β1 H1 e1 S1 r1) fun _ _ q => xs_x q
theorem ds_retN : DS X W (.Return none pos) (sRet (gC .non)) := by
  refine PSmono ps_retN fun D' σ H h => ?_
  obtain ⟨β, ρ, st, hρ, hs, h⟩ := h
  exact h .non β H (Ext.refl β H) hs .non
theorem ds_expr (he : DE X W e f) (hs : swapsWith e none pos.line X.env = pure false := by rfl) : DS X W (.Expr e pos) (sDrop f) := by
  refine PSmono (ps_expr he hs) fun D' σ H h => ?_
  obtain ⟨β, ρ, st, hρ, hs, h⟩ := h
  exact tD_intro hρ hs (Out.sat_bind h) (fun d s1 h1 v β1 H1 e1 S1 r1 => h1 σ β1 H1 e1 S1 (hρ.ext e1)) fun _ _ q => xs_x q
theorem ds_next {st : Stmt} (h : PS X st tNext) : DS X W st sNext := PSmono h fun D' σ H h => by
  obtain ⟨β, ρ, st, hρ, hs, h⟩ := h
  exact h σ β H (Ext.refl β H) hs hρ
theorem ds_doc {x j pos'} : DS X W (.Expr (.Constant (.str x) j pos) pos') sNext := ds_next ps_doc
theorem ds_pass : DS X W (.Pass pos) sNext := ds_next ps_pass
theorem ds_break : DS X W (.Break pos) sBreak := PSmono ps_break fun D' σ H h => by
  obtain ⟨β, ρ, st, hρ, hs, h⟩ := h
  exact h σ β H (Ext.refl β H) hs hρ
theorem ds_cont : DS X W (.Continue pos) sCont := PSmono ps_continue fun D' σ H h => by
  obtain ⟨β, ρ, st, hρ, hs, h⟩ := h
  exact h σ β H (Ext.refl β H) hs hρ
/-- what is never come to -/
theorem ds_bad {st : Stmt} : DS X W st sBad := ⟨fun _ _ _ _ _ _ h => by
  obtain ⟨_, _, _, _, _, h⟩ := h
  exact h.elim⟩
theorem dss_bad {st : List Stmt} : DSs X W st sBad := ⟨fun _ _ _ _ _ _ h => by
  obtain ⟨_, _, _, _, _, h⟩ := h
  exact h.elim⟩
theorem dss_nil : DSs X W [] sNext := PSsmono pss_nil fun D' σ H h => by
  obtain ⟨β, ρ, st, hρ, hs, h⟩ := h
  exact h σ β H (Ext.refl β H) hs hρ
theorem dss_one (h : DS X W st u) : DSs X W [st] u := pss_one h
theorem seq_post {K : Zx} {mg : Str → Option Value} {g : G Fl} {D' : Ends} {β : Bx} {H : Hp} {r : Fl} {s1 : Sto} (h : (match r with | .nx ρ' => g ρ' s1 | r => .ok r s1 : Out Fl).sat (PostF K D' β H) (PostXS K mg W β H)) : PostF K { D' with nx := tDS K mg W g D' } β H r s1 := by
  cases r with
  | nx ρ => exact fun σ β' H' e S r => ⟨β', ρ, s1, r, S, h.mono (fun _ _ q => q.ext e) fun _ _ q => q.ext e⟩
  | rt d => exact h
  | bk ρ => exact h
  | ct ρ => exact h
theorem dss_cons (h1 : DS X W st u) (h2 : DSs X W rest v) : DSs X W (st :: rest) (sSeq u v) := by
  refine PSsmono (pss_cons h1 h2) fun D' σ H h => ?_
  obtain ⟨β, ρ, st, hρ, hs, h⟩ := h
  exact ⟨β, ρ, st, hρ, hs, (Out.sat_bind h).mono (fun r s1 q => seq_post q) fun _ _ q => q⟩
theorem ds_if {sa sb : List Stmt} (hc : DT X W c t) (ha : DSs X W sa u) (hb : DSs X W sb v) : DS X W (.If c sa sb pos) (sIf t u v) := by
  refine PSmono (ps_if hc ha hb) fun D' σ H h => ?_
  obtain ⟨β, ρ, st, hρ, hs, h⟩ := h
  refine tDT_intro hρ hs (Out.sat_bind h) (fun k s1 h1 β1 H1 e1 S1 => ?_) fun _ _ q => xs_x q
  cases k with
  | true => exact ⟨β1, ρ, s1, hρ.ext e1, S1, Out.sat.mono h1 (fun _ _ z => z.ext e1) fun _ _ z => z.ext e1⟩
  | false => exact ⟨β1, ρ, s1, hρ.ext e1, S1, Out.sat.mono h1 (fun _ _ z => z.ext e1) fun _ _ z => z.ext e1⟩
theorem ds_for {p : Pat} {fi : G (List D)} {body : List Stmt} (hp : PassesOwn (model X.prog X.w) X.A X.env X.xe) (hc : X.calm = true) (hi : DI X W tg iter fi) (hg : DG X tg p) (hb : DSs X W body u)
    (hs : ∀ x, foldedSetIterable iter X.env x = pure x := by intro _; rfl) : DS X W (.For tg iter body [] pos) (sFor fi p u) := by
  refine PSmono (ps_for hp hc hi hg hb hs) fun D' σ H h => ?_
  obtain ⟨β, ρ, st, hρ, hs, h⟩ := h
  refine ⟨β, ρ, st, hρ, hs, (Out.sat_bind h).mono (fun items s1 h1 J β1 H1 e1 S1 it hl => ?_) fun _ _ q => xs_x q⟩
  let Iv : Nat → L2.St → Hp → Prop := fun i σ H' => i ≤ items.length ∧ ∃ β' ρ' st', Ext β1 H1 β' H' ∧ RepEnv (zOf X) β' H' σ ρ' ∧ StoOk (zOf X) β' H' st' ∧ (forGo p u (items.drop i) ρ' st').sat (PostF (zOf X) D' β H) (PostXS (zOf X) X.mg W β H)
  refine ⟨fun i m σ H => m = items.length - i ∧ Iv i σ H, ⟨items.length, by simp, Nat.zero_le _, β1, ρ, s1, Ext.refl _ _, hρ.ext e1, S1, by simpa using h1⟩, ?_⟩
  rintro i m σ' H' ⟨rfl, hi, β', ρ', st', ex, hρ', S', go⟩
  by_cases hlt : i < items.length
  · refine .inr ⟨it.go _ _ i ex.mv hlt, fun σ H => Iv (i + 1) σ H, fun σ2 H2 hq => ⟨items.length - (i + 1), by omega, rfl, hq⟩, fun x H2 hy => ?_⟩
    have hd : items[i]? = some items[i] := List.getElem?_eq_getElem hlt
    obtain ⟨sm, rx⟩ := it.yld _ _ i x H2 items[i] ex.mv hd hy
    have hdrop : items.drop i = items[i] :: items.drop (i + 1) := List.drop_eq_getElem_cons hlt
    rw [hdrop] at go
    simp only [forGo] at go
    split at go
    · exact go.elim
    · rename_i ρ1 hset
      have ex2 := ex.trans (Ext.same (β := β') sm)
      refine pat_ok p x items[i] _ _ ρ1 _ rx hset (hρ'.ext (Ext.same sm)) fun σ3 hσ3 _ _ => ?_
      refine ⟨β', ρ1, st', hσ3, S'.same sm, (Out.sat_bind go).mono (fun r s4 h4 => ?_) fun _ _ q => q.ext (e1.trans ex2)⟩
      cases r with
      | nx ρ4 => exact fun σ4 β4 H4 e4 S4 r4 => ⟨hlt, β4, ρ4, s4, ex2.trans e4, r4, S4, h4⟩
      | ct ρ4 => exact fun σ4 β4 H4 e4 S4 r4 => ⟨hlt, β4, ρ4, s4, ex2.trans e4, r4, S4, h4⟩
      | bk ρ4 => exact fun σ4 β4 H4 e4 S4 r4 => h4 σ4 β4 H4 ((e1.trans ex2).trans e4) S4 r4
      | rt d => exact fun v4 β4 H4 e4 S4 r4 => h4 v4 β4 H4 ((e1.trans ex2).trans e4) S4 r4
  · have e0 : i = items.length := by omega
    subst e0
    refine .inl ⟨it.stop _ _ _ ex.mv (Nat.le_refl _), ?_⟩
    rw [List.drop_length] at go
    exact go σ' β' H' (e1.trans ex) S' hρ'
end

/-! ### defs -/
def spD (K : Zx) (mg : Str → Option Value) (n : Nat) (m : List D → Sto → Out D) : Sp := fun vs H Q E => ∃ β ds st, Reps K β H vs ds ∧ StoOk K β H st ∧ vs.length = n ∧ (m ds st).sat (PostV K Q β H) (PostX K mg E β H)
abbrev FnD (P : Program) (w : World) (K : PySem.W.Frag) (mg : Str → Option Value) (base : Heap) (k : Nat) (f : Addr) (fd : FuncData) (ps : List Str) (m : List D → Sto → Out D) : Prop := FnOk P w K mg base (L2.CX P w) k f fd ps (spD ⟨P, K, w, base⟩ mg ps.length m)
def endD (r : Fl) (st : Sto) : Out D := match r with
  | .rt d => .ok d st
  | .nx _ => .ok .non st
  | _ => .bad
def gFun (n : Nat) (g : G Fl) : List D → Sto → Out D := fun ds st => (g (ds.map some ++ List.replicate (n - ds.length) none) st).bind endD
section
variable {P : Program} {w : World} {K : PySem.W.Frag} {mg : Str → Option Value} {base : Heap}
theorem start_env {K : Zx} {β : Bx} {H : Hp} {N : List Str} {vs : List V} {ds : List D} (r : Reps K β H vs ds) : RepEnv K β H (L2.start N vs) (ds.map some ++ List.replicate (N.length - ds.length) none) := by
  refine ⟨by simp [L2.start, r.length], fun i d q => ?_⟩
  by_cases hi : i < ds.length
  · rw [List.getElem?_append_left (by simpa using hi), List.getElem?_map] at q
    cases e : ds[i]? with
    | none => rw [e] at q; cases q
    | some d' =>
      rw [e] at q
      have q := Option.some.inj (Option.some.inj q)
      subst q
      obtain ⟨v, hv, rv⟩ := r.get e
      refine ⟨v, ?_, rv⟩
      unfold L2.start
      rw [List.getElem?_append_left (by rw [List.length_map, r.length]; exact hi), List.getElem?_map, hv]
      rfl
  · rw [List.getElem?_append_right (by simpa using hi)] at q
    rw [List.getElem?_replicate] at q
    split at q <;> cases q
abbrev WE' (E : XK) : WX := fun cls d _ H => E cls d H
theorem fnD_of {x qual : Str} {st : Stmt} {f : Addr} {fd : FuncData} {N ps : List Str} {k : Nat} {g : G Fl} (F : Fun K x qual st f fd) (S : FnScope N ps (defScope st))
    (hb : ∀ (cdv : Value) (A : Around) (outer : List PySem.Env) (s : Shared) (H : Hp) (E : XK), Room k (A.deeper (envOfC qual (defScope st) s.heap.objs.size f cdv)) →
      DSs (cxOf (L2.CX P w) P w K mg base N qual (defScope st) f cdv A outer s H E) (WE' E) (defBody st) g) : FnD P w K mg base (k + 1) f fd ps (gFun N.length g) := by
  refine F.okX S (fun vs H Q E h => ?_) (fun cdv A outer s H vs Q E hr h => ?_)
  · obtain ⟨β, ds, st, r, S, hl, h⟩ := h
    exact hl
  · obtain ⟨β, ds, st, r, S, hl, h⟩ := h
    refine ⟨_, hb cdv A outer s H E hr, β, _, st, start_env r, S, (Out.sat_bind h).mono (fun r s1 q => ?_) fun _ _ q => fun c d σ β' H' e S r => q c d β' H' e S r⟩
    cases r with
    | nx ρ => exact fun σ β' H' e S r => q .non β' H' e S .non
    | rt d => exact q
    | bk ρ => exact q.elim
    | ct ρ => exact q.elim
theorem FnD.imp {k : Nat} {f : Addr} {fd : FuncData} {ps : List Str} {m m' : List D → Sto → Out D} (F : FnD P w K mg base k f fd ps m) (h : ∀ ds st, m' ds st ≠ .bad → m ds st = m' ds st) : FnD P w K mg base k f fd ps m' :=
  FnOk.imp F fun vs H Q E ⟨β, ds, st, r, S, hl, q⟩ => ⟨β, ds, st, r, S, hl, by
    rw [h ds st fun z => by rw [z] at q; exact q]
    exact q⟩
end
def gCall (m : List D → Sto → Out D) (f : G (List D)) : G D := fun ρ st => (f ρ st).bind fun ds s1 => m ds s1
section
variable {X : Cx} {W : WX} {pos p : Pos} {x : Str} {e : Expr} {es : List Expr} {fs : G (List D)} {k : Nat} {f : Addr} {fd : FuncData} {ps : List Str} {m : List D → Sto → Out D}
theorem de_call (F : FnD X.prog X.w X.K X.mg X.base k f fd ps m) (tk : Takes X W) (hr : Room k X.A) (hg : Gl X x) (hm : X.mg x = some (.ref f)) (hk : PySem.W.keepIn X.K (.ref f) = true) (hb : Binds X.K fd ps []) (hl : (e :: es).length = ps.length)
    (ha : DA X W (e :: es) fs) (hdb : (x == ("__debug__" : Str)) = false := by decide) (he : starEach (e :: es) X.env = (false, eval e X.env) :: starEach es X.env := by rfl) (hpl : (backTo pos (starEach es X.env)).any (·.1) = false := by rfl) (hfl : ∀ ρ st ds s1, fs ρ st = .ok ds s1 → ds.length = (e :: es).length) :
    DE X W (.Call (.Name x p) (e :: es) [] pos) (gCall m fs) := by
  refine PEmono (pe_callS (E := fun σ => WE W σ) F hr hg hm hk hb (fun σ => passAt tk σ) ha hdb he hpl) fun σ H Q h => ?_
  obtain ⟨β, ρ, st, hρ, hs, h⟩ := h
  have h := Out.sat_bind h
  cases q : fs ρ st with
  | bad => rw [q] at h; exact h.elim
  | exn x s => exact ⟨β, ρ, st, hρ, hs, by rw [q] at h ⊢; exact h⟩
  | ok ds s1 =>
    refine ⟨β, ρ, st, hρ, hs, ?_⟩
    rw [q] at h ⊢
    refine fun vs β1 H1 e1 S1 r1 => ⟨β1, ds, s1, r1, S1, by rw [r1.length, hfl _ _ _ _ q, hl], Out.sat.mono h (fun _ _ z => z.ext e1) fun _ _ z => z.ext e1⟩
end
end DL

set_option Elab.async false
set_option linter.all false
set_option maxRecDepth 100000
set_option maxHeartbeats 2000000
namespace DL
open PySem PySem.Spec L2
open PyProof.Rows hiding St
theorem hu65 {k : Nat} {A : Around} (r : Room k A) : A.units + 65 < cLine := by have := r.un; omega
theorem hu64 {k : Nat} {A : Around} (r : Room k A) : A.units + 64 < cLine := by have := r.un; omega
theorem hu1 {k : Nat} {A : Around} (r : Room k A) : A.units + 1 < cLine := by have := r.un; omega
abbrev AL (g : G (List D)) (n : Nat) : Prop := ∀ ρ st ds s1, g ρ st = .ok ds s1 → ds.length = n
theorem al_nil : AL aNil 0 := fun ρ st ds s1 h => by
  cases h
  rfl
theorem al_cons {f : G D} {g : G (List D)} {n : Nat} (h : AL g n) : AL (aCons f g) (n + 1) := fun ρ st ds s1 e => by
  unfold aCons at e
  cases q : f ρ st with
  | bad => rw [q] at e; cases e
  | exn x s => rw [q] at e; cases e
  | ok d s =>
    rw [q] at e
    simp only [Out.bind_ok] at e
    cases q2 : g ρ s with
    | bad => rw [q2] at e; cases e
    | exn x s => rw [q2] at e; cases e
    | ok ds' s' =>
      rw [q2] at e
      simp only [Out.bind_ok, Out.ok.injEq] at e
      rw [← e.1, List.length_cons, h _ _ _ _ q2]
section
variable {X : Cx} {W : WX}
/-- name = [..] on one line, the name a local -/
theorem ds_setLc (i : Nat) {y : Str} {py : Pos} {elt tg iter : Expr} {ifs : List Expr} {scope : Scope} {own : List (Str × Nat)} {pos spos : Pos} {fi : G (List D)} {p : Pat} {t : G Bool} {e : G D} (hc : X.calm = true) (hN : X.N.Nodup) (hy : X.N[i]? = some y) (hyl : X.env.scope.names.lookup y = some .local)
    (hsw : swapsWith (.ListComp elt [⟨tg, iter, ifs, 0⟩] scope pos) (some (.Name y py)) spos.line X.env = pure true) (hi : DI X W tg iter fi) (ok : BlkOk X.N X.env.scope scope own) (hsl : ∀ i ∈ p.slots, i ∈ own.map (·.2))
    (hg : ∀ (s : Shared) (H : Hp) (C : Addr) (cl : List (Str × Addr)) (fp : List Addr), DG (X.blk s H scope (compEnvC scope cl C X.env) fp) tg p) (ht : ∀ (s : Shared) (H : Hp) (C : Addr) (cl : List (Str × Addr)) (fp : List Addr), DTs (X.blk s H scope (compEnvC scope cl C X.env) fp) WF ifs t)
    (he : ∀ (s : Shared) (H : Hp) (C : Addr) (cl : List (Str × Addr)) (fp : List Addr), DE (X.blk s H scope (compEnvC scope cl C X.env) fp) WF elt e) (hs : ∀ x, foldedSetIterable iter X.env x = pure x := by intro _; rfl) :
    DS X W (.Assign [.Name y py] (.ListComp elt [⟨tg, iter, ifs, 0⟩] scope pos) spos) (sSet i (gComp (own.map (·.2)) fi p t e)) := by
  refine PSmono (ps_setLc (g := p.tg (zOf X)) (tt := tDT (zOf X) X.mg WF t) (te := tD (zOf X) X.mg WF e) hc hN hy hyl hsw hi ok hg ht he hs) fun D' σ H h => ?_
  show tLc _ _ _ _ _ σ H _
  refine tLc_of (W := W) hsl ?_
  obtain ⟨β, ρ, st, hρ, hs, h⟩ := h
  exact tD_intro hρ hs (Out.sat_bind h) (fun d s1 h1 v β1 H1 e1 S1 r1 => h1 _ β1 H1 e1 S1 ((hρ.ext e1).set i r1)) fun _ _ q => xs_x q
theorem ds_setLcM (i : Nat) {y : Str} {py : Pos} {elt tg iter : Expr} {ifs : List Expr} {scope : Scope} {own : List (Str × Nat)} {pos spos : Pos} {fi : G (List D)} {p : Pat} {t : G Bool} {e : G D} (hc : X.calm = true) (hN : X.N.Nodup) (hy : X.N[i]? = some y) (hyl : X.env.scope.names.lookup y = some .local)
    (hsw : swapsWith (.ListComp elt [⟨tg, iter, ifs, 0⟩] scope pos) (some (.Name y py)) spos.line X.env = pure true) (hi : DI X W tg iter fi) (ok : BlkOk X.N X.env.scope scope own) (hsl : ∀ i ∈ p.slots, i ∈ own.map (·.2))
    (hg : ∀ (s : Shared) (H : Hp) (C : Addr) (cl : List (Str × Addr)) (fp : List Addr), DG (X.blk s H scope (compEnvC scope cl C X.env) fp) tg p) (ht : ∀ (s : Shared) (H : Hp) (C : Addr) (cl : List (Str × Addr)) (fp : List Addr), DTs (X.blk s H scope (compEnvC scope cl C X.env) fp) WF ifs t)
    (he : ∀ (s : Shared) (H : Hp) (C : Addr) (cl : List (Str × Addr)) (fp : List Addr), DE (X.blk s H scope (compEnvC scope cl C X.env) fp) WF elt e) (hs : ∀ x, foldedSetIterable iter X.env x = pure x := by intro _; rfl) :
    DS X W (.Assign [.Name y py] (.ListComp elt [⟨tg, iter, ifs, 0⟩] scope pos) spos) (sSet i (gCompM (own.map (·.2)) fi p t e)) := by
  refine PSmono (ps_setLc (g := p.tg (zOf X)) (tt := tDT (zOf X) X.mg WF t) (te := tD (zOf X) X.mg WF e) hc hN hy hyl hsw hi ok hg ht he hs) fun D' σ H h => ?_
  show tLc _ _ _ _ _ σ H _
  refine tLc_ofM (W := W) hsl ?_
  obtain ⟨β, ρ, st, hρ, hs, h⟩ := h
  exact tD_intro hρ hs (Out.sat_bind h) (fun d s1 h1 v β1 H1 e1 S1 r1 => h1 _ β1 H1 e1 S1 ((hρ.ext e1).set i r1)) fun _ _ q => xs_x q

/-! ### a written dict with text keys: d.get(k), d[k] -/
/-- what the dict at d holds -/
def KTab (K : Zx) (d : Addr) (tab : List (Str × D)) : Prop := ∀ z : Str, ∃ r, PySem.W.nsIn K d z = some r ∧ match tab.lookup z with
  | some x => ∃ u v, r = some u ∧ RelV v u ∧ ∀ β H, Rep K β H v x
  | none => r = none
def gKGet (tab : List (Str × D)) (f : G D) : G D := fun ρ st => (f ρ st).bind fun k s1 => match k with
  | .str z => .ok ((tab.lookup z).getD .non) s1
  | _ => .bad
def gKIx (tab : List (Str × D)) (f : G D) : G D := fun ρ st => (f ρ st).bind fun k s1 => match k with
  | .str z => oout (tab.lookup z) s1
  | _ => .bad
theorem de_kget {d : Addr} {es : Array DictEntry} {n : Nat} {tab : List (Str × D)} {o e : Expr} {apos cpos : Pos} {f : G D} (D' : KDict X.K X.w d es n) (T : KTab (zOf X) d tab) (ho : PE X o (tC (.ref d))) (he : DE X W e f) (m : M1 X o "get" apos e cpos) :
    DE X W (.Call (.Attribute o "get" apos) [e] [] cpos) (gKGet tab f) := by
  refine ⟨fun pins s σ H Q I h => ?_⟩
  obtain ⟨β, ρ, st, hρ, hs, h⟩ := h
  have he' : tD (zOf X) X.mg W f σ H (fun y H1 => ∃ z r v, y = .str z ∧ PySem.W.nsIn X.K d z = some r ∧ RelV v (r.getD .none) ∧ Q v H1) := by
    refine tD_intro hρ hs (Out.sat_bind h) (fun k s1 h1 v β1 H1 e1 S1 r1 => ?_) fun _ _ q => q
    cases k with
    | str z =>
      cases r1
      obtain ⟨r, hr, t⟩ := T z
      have h1 : PostV (zOf X) Q β H ((tab.lookup z).getD .non) s1 := h1
      cases q : tab.lookup z with
      | none =>
        rw [q] at t h1
        exact ⟨z, r, .non, rfl, hr, by rw [show r = none from t]; rfl, h1 .non β1 H1 e1 S1 .non⟩
      | some x =>
        rw [q] at t h1
        obtain ⟨u, v, e2, rv, rp⟩ := t
        exact ⟨z, r, v, rfl, hr, by rw [e2]; exact rv, h1 v β1 H1 e1 S1 (rp β1 H1)⟩
    | _ => exact h1.elim
  refine wpAny_Call_method m.base m.few m.line PySem.F.plainAttrs_dict PySem.F.slot_dict_get PySem.F.type_dict_get (thn (ho.run pins s σ H (fun x H1 => x = .ref d ∧ H1 = H) I ⟨rfl, rfl⟩) fun u s1 ⟨x, H1, I1, rx, ex, eH⟩ => ?_)
  subst ex eH
  obtain rfl : u = Value.ref d := rx
  refine ⟨kd_type D' I1, fun b q => ?_, ?_⟩
  · cases q
    exact ⟨_, I1.kIn _ _ D'.at_, rfl⟩
  · rw [m.trees]
    refine Calls.callWith_builtin rfl (Calls.evalArgs_plain (Calls.spliced_cons (thn (he.run pins s1 σ H1 _ I1 he') fun iv s2 ⟨y, H2, I2, ry, z, r, v, ey, hr, rv, q⟩ => Calls.spliced_nil ?_)))
    subst ey
    obtain ⟨t, rfl⟩ := ry
    refine call_meetsIn PySem.F.slot_dict_get (kd_type D' I2) PySem.F.entry_dict_get (PySem.F.args_dict_get_2 _ _) (meets_dict_get (strKind X.prog X.w) d (PySem.strKind_is X.prog X.w z t) D'.low) ⟨_, PySem.W.mapOf_K (prog := X.prog) I2.kIn D'.at_ D'.lit, ?_⟩
    rw [PySem.W.find_K D'.at_ hr]
    exact ⟨v, H2, I2.tok _, rv, q⟩
theorem pe_K {x : Str} {d : Addr} {pos : Pos} (hg : Gl X x) (hm : X.mg x = some (.ref d)) (hd : (x == ("__debug__" : Str)) = false := by decide) : PE X (.Name x pos) (tC (.ref d)) := pe_glob hg hm rfl hd
end
end DL

set_option Elab.async false
set_option linter.all false
set_option maxRecDepth 100000
set_option maxHeartbeats 2000000
namespace DL
open PySem PySem.Spec L2
open PyProof.Rows hiding St
theorem takesF {X : Cx} : Takes X WF := takes0
def mNeg : D → Sto → Option D
  | .int i, _ => some (.int (-i))
  | _, _ => none
section
variable {K : Zx}
theorem ud_neg : UnD K (rU fun i => .int (-i)) mNeg := by
  intro β H st x dx d Q rx S e q
  cases dx <;> simp only [mNeg, Option.some.injEq, reduceCtorEq] at e
  cases rx; subst e
  exact ⟨_, rfl, q _ _ (Same.refl H) (.int _)⟩
end
section
variable {X : Cx} {W : WX} {pos : Pos} {f g : G D} {e o : Expr}
/-- {} -/
def gDctM : G D := fun _ st => .ok (.ref st.length) (st ++ [.dK []])
theorem de_dnew : DE X W (.Dict [] [] pos) gDctM := by
  refine PEmono pe_dnewK fun σ H Q h => ?_
  obtain ⟨β, ρ, st, hρ, hs, h⟩ := h
  intro p hp
  refine h (.ref p) (β.add p) _ (Ext.grow hp) (hs.grow hp ⟨[], upd_same, rfl, rfl, .nil⟩) (.ref ?_)
  rw [← hs.len]
  simp [Bx.add]
/-! ### isinstance(x, (c1, c2)) -/
def rIsiS (K : PySem.W.Frag) : List V → Hp → VK → Prop := fun xs H Q => ∃ (x : V) (tp : Addr) (cs : List V) (t : Value) (us : List Value) (b : Bool), xs = [x, .ref tp] ∧ SqT K H tp cs ∧ Paired ClsV cs us ∧ TyX K H x t ∧ PySem.W.kitAny K t us = some b ∧ Q (.bl b) H
theorem call_isiS : CallR X (.builtin "isinstance") (rIsiS X.K) := by
  intro pins s σ H xs us Q I r h
  obtain ⟨x, tp, cs, t, ws, b, rfl, hT, k, ty, e, q⟩ := h
  obtain ⟨u1, u2, rfl, r1, r2⟩ := vals2 r
  cases (show u2 = Value.ref tp from r2)
  obtain ⟨P, Z, p, hx⟩ := kit_of I r1 ty
  obtain ⟨its, rv, ⟨o, h1, h2, n, h3⟩, _⟩ := I.tuple hT
  have e3 := ClsV.all k rv
  subst e3
  obtain ⟨oc, od, dt, sl⟩ := o
  simp only at h2 h3
  subst h2 h3
  exact PySem.W.kia_tup Z I.kIn p h1 e hx fun tk => ⟨.bl b, H, I.tok tk, rfl, q⟩
def isiAny (a : String) : List D → Option Bool
  | [] => some false
  | .raw (.ty b) :: r => match isiB a b, isiAny a r with
    | some x, some y => some (x || y)
    | _, _ => none
  | _ => none
def mIsiT : List D → Sto → Option D
  | [d, .tup cs], st => match tyD d st with
    | some a => (isiAny a cs).map D.bl
    | none => none
  | _, _ => none
theorem isiAny_kit {K : Zx} {β : Bx} {H : Hp} {a : String} : ∀ {cs : List D} {xs : List V} {b : Bool}, Reps K β H xs cs → isiAny a cs = some b → ∃ us, Paired ClsV xs us ∧ PySem.W.kitAny K (.type a) us = some b
  | [], _, b, r, e => by
    cases r
    cases e
    exact ⟨[], .nil, kitAny_nil⟩
  | .raw (.ty c) :: cs, _, b, r, e => by
    cases r with
    | cons r1 r2 =>
      simp only [isiAny] at e
      split at e
      · rename_i x y hx hy
        cases e
        obtain ⟨us, h1, h2⟩ := isiAny_kit r2 hy
        cases r1
        refine ⟨_, .cons (.ty c) h1, kitAny_cons (kit_ty (isiB_kit hx)) (fun z => ?_) fun z => ?_⟩
        · rw [z]; exact h2
        · rw [z]; rfl
      · cases e
theorem cd_isiT {K : Zx} : CallD K (rIsiS K) mIsiT := by
  intro β H st xs ds d Q r S e q
  match ds, r, e with
  | [x, .tup cs], r, e =>
    obtain ⟨v, w, rfl, r1, r2⟩ := r.two
    simp only [mIsiT] at e
    split at e
    · rename_i a ha
      rw [Option.map_eq_some_iff] at e
      obtain ⟨k, hk, e⟩ := e
      subst e
      cases r2 with
      | tup h1 h2 h3 =>
        obtain ⟨us, p, z⟩ := isiAny_kit h2 hk
        exact ⟨v, _, _, _, us, k, rfl, h1, p, tyD_x r1 S ha, z, q _ _ (Same.refl H) (.bl _)⟩
    · cases e

/-! ### writing: xs[i] = v, d[k] = v -/
def setSto (st : Sto) (n : Nat) (o : SO) : Sto := st.set n o
/-- o[i] = v -/
def mPut (o i v : D) (st : Sto) : Option Sto := match o, i with
  | .ref n, .int k => match st[n]? with
    | some (.lst l) => (ixN l.length k).map fun j => st.set n (.lst (l.set j v))
    | _ => none
  | _, _ => none
def sPut (fo fi fv : G D) : G Fl := fun ρ st => (fv ρ st).bind fun v s1 => (fo ρ s1).bind fun o s2 => (fi ρ s2).bind fun i s3 => match mPut o i v s3 with
  | some s4 => .ok (.nx ρ) s4
  | none => .bad
theorem Ext.write {β : Bx} {H : Hp} {a : Addr} {n : Nat} {o u : HO} (hm : β.lo[n]? = some a) (ha : H a = some u) (nt : ∀ xs, u ≠ .tup xs) (nf : ∀ ob w, u ≠ .frz ob w) (nc : ∀ c q, u ≠ LamX.CodeO c q := by intro _ _ z; cases z) (no : ∀ ps, o ≠ .tbl ps := by intro _ z; cases z) : Ext β H β (upd H a o) := by
  have ne : ∀ b w, H b = some w → w ≠ u → b ≠ a := fun b w q n z => by
    rw [z, ha] at q
    exact n (Option.some.inj q).symm
  refine ⟨⟨[], by simp, by simp⟩, rfl, fun b w hb hw hn => ?_, fun b xs q => ?_, fun b ob w q => ?_, fun b w q n => ?_, fun c q' z => ?_⟩
  · rw [upd_ne fun z => hb (by rw [z]; exact List.mem_iff_getElem?.mpr ⟨n, hm⟩)]
    exact hw
  · rw [upd_ne (ne b _ q fun z => nt xs z.symm)]
    exact q
  · rw [upd_ne (ne b _ q fun z => nf ob w z.symm)]
    exact q
  · by_cases hb : b = a
    · exact ⟨o, by rw [hb, upd_same], no⟩
    · exact ⟨w, by rw [upd_ne hb]; exact q, n⟩
  · rw [upd_ne (ne c _ z fun y => nc c q' y.symm)]
    exact z
theorem StoOk.write {K : Zx} {β : Bx} {H : Hp} {st : Sto} {a : Addr} {n : Nat} {o : HO} {so : SO} (S : StoOk K β H st) (hm : β.lo[n]? = Option.some a) (e : Ext β H β (upd H a o)) (r : SORel K β (upd H a o) a so) : StoOk K β (upd H a o) (st.set n so) := by
  refine ⟨by rw [List.length_set]; exact S.len, S.nd, fun m b u h1 h2 => ?_, fun p hp => ?_⟩
  · by_cases hn : n = m
    · subst hn
      rw [hm] at h1
      cases h1
      rw [List.getElem?_set_self (by rw [← S.len]; exact (List.getElem?_eq_some_iff.mp hm).1)] at h2
      cases h2
      exact r
    · rw [List.getElem?_set_ne hn] at h2
      refine (S.obj m b u h1 h2).move e.mv fun w q => ?_
      rw [upd_ne fun z => hn ?_]
      · exact q
      · subst z
        obtain ⟨q1, e1⟩ := List.getElem?_eq_some_iff.mp hm
        obtain ⟨q2, e2⟩ := List.getElem?_eq_some_iff.mp h1
        exact (List.getElem_inj S.nd).mp (e1.trans e2.symm)
  · obtain ⟨w, hw, nw⟩ := S.priv p hp
    exact e.dom p w hw nw
theorem ds_put {i v : Expr} {fo fi fv : G D} {tpos : Pos} (ho : DE X W o fo) (hi : DE X W i fi) (hv : DE X W v fv) (ha : ∀ u, assign (.Subscript o i tpos) X.env u = (do
      let ov ← holding [u] (eval o X.env)
      let iv ← holding [u, ov] (eval i X.env)
      standAt tpos
      holding [u, ov, iv] (setItem ov iv u)
      release [u, ov, iv] []) := by intro _; rfl) (hs : swapsWithSole [.Subscript o i tpos] v pos.line X.env = pure false := by rfl) (hw : swappedStores [.Subscript o i tpos] v X.env = pure none := by rfl)
    (h1 : (assignEach [.Subscript o i tpos] X.env).map (·.2) = [assign (.Subscript o i tpos) X.env] := by rfl) : DS X W (.Assign [.Subscript o i tpos] v pos) (sPut fo fi fv) := by
  refine PSmono (ps_asg hv (pg_sub ho hi set_list ha) hs hw h1) fun D' σ H h => ?_
  obtain ⟨β, ρ, st, hρ, hs, h⟩ := h
  refine tD_intro hρ hs (Out.sat_bind h) (fun dv s1 h1 v β1 H1 e1 S1 r1 => ?_) fun _ _ q => xs_x q
  refine tD_intro (hρ.ext e1) S1 (Out.sat_bind h1) (fun d_o s2 h2 vo β2 H2 e2 S2 r2 => ?_) fun _ _ q => (xs_x q).ext e1
  refine tD_intro ((hρ.ext e1).ext e2) S2 (Out.sat_bind h2) (fun di s3 h3 vi β3 H3 e3 S3 r3 => ?_) fun _ _ q => ((xs_x q).ext e1).ext e2
  unfold mPut at h3
  split at h3
  · rename_i s4 hp
    split at hp
    · rename_i n k
      have r2' := Rep.ext e3 _ _ r2
      cases r3
      cases r2' with
      | ref hm =>
        obtain ⟨so, hso, rel⟩ := S3.get hm
        rw [hso] at hp
        cases so with
        | lst l =>
          obtain ⟨xs, hH, rxs⟩ := rel
          simp only [Option.map_eq_some_iff] at hp
          obtain ⟨j, hj, hp⟩ := hp
          subst hp
          refine ⟨_, xs, k, j, rfl, rfl, hH, by rw [rxs.length]; exact hj, ?_⟩
          have ew := Ext.write (o := .lst (xs.set j v)) hm hH (fun _ z => by cases z) fun _ _ z => by cases z
          have rv := Rep.ext ew _ _ (Rep.ext (e2.trans e3) _ _ r1)
          exact h3 σ β3 _ (((e1.trans e2).trans e3).trans ew) (S3.write hm ew ⟨_, upd_same, (Reps.ext ew _ _ rxs).set rv j⟩) ((((hρ.ext e1).ext e2).ext e3).ext ew)
        | dK l => cases hp
        | tab _ _ => cases hp
        | dN _ => cases hp
        | ins _ _ => cases hp
        | lock => cases hp
    · cases hp
  · exact h3.elim
/-! ### appending -/
def mLstAt (o : D) (st : Sto) : Option (Nat × List D) := match o with
  | .ref n => match st[n]? with
    | some (.lst l) => some (n, l)
    | _ => none
  | _ => none
theorem mLstAt_ok {K : Zx} {β : Bx} {H : Hp} {st : Sto} {o : D} {v : V} {n : Nat} {l : List D} (h : mLstAt o st = some (n, l)) (r : Rep K β H v o) (S : StoOk K β H st) : o = .ref n ∧ ∃ a xs, v = .ref a ∧ β.lo[n]? = some a ∧ H a = some (.lst xs) ∧ Reps K β H xs l := by
  unfold mLstAt at h
  split at h
  · rename_i m
    split at h
    · rename_i l' hl
      cases h
      cases r with
      | ref hm =>
        obtain ⟨so, hso, rel⟩ := S.get hm
        rw [hl] at hso
        cases hso
        obtain ⟨xs, hH, rx⟩ := rel
        exact ⟨rfl, _, xs, rfl, hm, hH, rx⟩
    · cases h
  · cases h
def gAppend (fo fv : G D) : G D := fun ρ st => (fo ρ st).bind fun o s1 => match mLstAt o s1 with
  | none => .bad
  | some _ => (fv ρ s1).bind fun v s2 => match mLstAt o s2 with
    | some (n, l) => if l.length < LIM then .ok .non (s2.set n (.lst (l ++ [v]))) else .bad
    | none => .bad
theorem de_append {o e : Expr} {fo fv : G D} {apos cpos : Pos} (ho : DE X W o fo) (he : DE X W e fv)
    (hbase : attributeBase o "append" X.env (eval o X.env) = eval o X.env := by rfl)
    (hfew : ((backTo cpos (starEach (e :: []) X.env)).all (fun x => !x.1) && (backToKw cpos (keywordEach [] X.env)).all (fun x => x.1.isSome)
      && decide ((e :: ([] : List Expr)).length + ([] : List Keyword).length + (if ([] : List Keyword).isEmpty then 0 else 1) < 30)) = true := by rfl)
    (hline : (apos.endLine == cpos.line) = true := by rfl) (hs : starEach (e :: []) X.env = (false, eval e X.env) :: starEach [] X.env := by rfl) (hplain : (backTo cpos (starEach [] X.env)).any (·.1) = false := by rfl) :
    DE X W (.Call (.Attribute o "append" apos) [e] [] cpos) (gAppend fo fv) := by
  refine PEmono (pe_bm PySem.F.plainAttrs_list PySem.F.slot_list_append PySem.F.type_list_append mt_append ho (pa_cons he pa_nil hs) hbase hfew hline hs hplain) fun σ H Q h => ?_
  obtain ⟨β, ρ, st, hρ, hs, h⟩ := h
  refine tD_intro hρ hs (Out.sat_bind h) (fun d_o s1 h1 vo β1 H1 e1 S1 r1 => ?_) fun _ _ q => q
  split at h1
  · exact h1.elim
  · rename_i z hz
    obtain ⟨n, l1⟩ := z
    obtain ⟨rfl, a, xs1, rfl, hm, hH1, rx1⟩ := mLstAt_ok hz r1 S1
    refine ⟨.inl ⟨rfl, _, .inl (.inl hH1)⟩, ?_⟩
    refine tD_intro (hρ.ext e1) S1 (Out.sat_bind h1) (fun dv s2 h2 v β2 H2 e2 S2 r2 => ?_) fun _ _ q => q.ext e1
    split at h2
    · rename_i n' l hz2
      obtain ⟨e3, a', xs, e4, hm2, hH, rx⟩ := mLstAt_ok hz2 (Rep.ref (e2.mem hm)) S2
      cases e3
      cases e4
      split at h2
      · rename_i hlt
        have hl := rx.length
        refine ⟨_, xs, v, rfl, rfl, hH, by rw [hl, sizeLine_eq]; exact Nat.lt_trans hlt (by decide), ?_⟩
        have ew := Ext.write (o := .lst (xs ++ [v])) hm2 hH (fun _ z => by cases z) fun _ _ z => by cases z
        exact h2 .non β2 _ ((e1.trans e2).trans ew) (S2.write hm2 ew ⟨_, upd_same, (Reps.ext ew _ _ rx).append (.cons (Rep.ext ew _ _ r2) .nil)⟩) .non
      · exact h2.elim
    · exact h2.elim
end
end DL

set_option Elab.async false
set_option linter.all false
set_option maxRecDepth 100000
set_option maxHeartbeats 2000000
/-! # sorted(set(texts)): a set of texts, its members in order -/
namespace DL
open PySem PySem.Spec L2
open PyProof.Rows hiding St

def keyS (e : Int × Value) : Str := match e.2 with
  | .str x _ => x
  | _ => Str.empty
def isTxt (P : Program) (w : World) (e : Int × Value) : Prop := ∃ x tk, e.2 = Value.str x tk ∧ e.1 = (strKind P w).hash x
/-- the set at a: its members S, n of them; it may be walked -/
structure TxtSet (P : Program) (w : World) (h : Heap) (a : Addr) (S : Str → Bool) (n : Nat) : Prop where
  all : ∃ o es ep t, h.get? a = some o ∧ o.ExactSet ∧ o.data = .set es ep t ∧ (∀ e ∈ es.toList, isTxt P w e) ∧ (es.toList.map keyS).Nodup ∧ (∀ x, S x = true ↔ x ∈ es.toList.map keyS) ∧
    es.size < scanBound ∧ t.fits es.size = true ∧ es.size = n ∧ Ris t.place.toList ∧ (w.params.followText "set-order" = true ∨ t.led = true)
section
variable {P : Program} {w : World} {h h' : Heap} {a : Addr} {S : Str → Bool} {n : Nat}
theorem TxtSet.stay (R : TxtSet P w h a S n) (k : ∀ o, h.get? a = some o → h'.get? a = some o) : TxtSet P w h' a S n := by
  obtain ⟨o, es, ep, t, q, r⟩ := R.all
  exact ⟨⟨o, es, ep, t, k o q, r⟩⟩
theorem TxtSet.cg {S' : Str → Bool} {n' : Nat} (R : TxtSet P w h a S n) (e : ∀ x, S' x = S x) (en : n' = n) : TxtSet P w h a S' n' := by
  have : S' = S := funext e
  subst this en
  exact R
theorem txt_elems {l : List (Int × Value)} (g : ∀ e ∈ l, isTxt P w e) : ElemsOf (strKind P w) l := fun e he => by
  obtain ⟨x, tk, e1, e2⟩ := g e he
  rw [e1]
  exact ⟨⟨x, strKind_is P w x tk, e2⟩, rfl⟩
theorem txt_is {e : Int × Value} (g : isTxt P w e) (x : Str) : (strKind P w).is x e.2 = true ↔ keyS e = x := by
  obtain ⟨y, tk, e1, _⟩ := g
  have hy := strKind_is P w y tk
  constructor
  · intro z
    rw [e1] at z
    unfold keyS
    rw [e1]
    exact (strKind P w).inj _ _ _ hy z
  · intro z
    unfold keyS at z
    rw [e1] at z ⊢
    have z : y = x := z
    subst z
    exact hy
theorem txt_mem {l : List (Int × Value)} (g : ∀ e ∈ l, isTxt P w e) (x : Str) : x ∈ l.map keyS ↔ ∃ e ∈ l, (strKind P w).is x e.2 = true := by
  rw [List.mem_map]
  constructor
  · rintro ⟨e, he, q⟩
    exact ⟨e, he, (txt_is (g e he) x).mpr q⟩
  · rintro ⟨e, he, q⟩
    exact ⟨e, he, (txt_is (g e he) x).mp q⟩
theorem TxtSet.setOf (R : TxtSet P w h a S n) : h.SetOf (strKind P w) a S n := by
  obtain ⟨o, es, ep, t, ho, hx, hd, g, nd, hm, hb, hf, hn, _⟩ := R.all
  exact ⟨o, es, ep, t, ho, hx, hd, txt_elems g, fun k => (hm k).trans (txt_mem g k), hb, hf, hn⟩
end
section
variable {P : Program} {w : World} {A : Around} {E : Value → Shared → Prop} {s : Shared} {a : Addr} {S : Str → Bool} {n : Nat}
theorem txt_tail {g : Bool → Sem Unit} (hg : ∀ (b : Bool) (s₁ : Shared) (Q' : Unit → Shared → Prop), Q' () s₁ → wpAny (model P w) A (g b) Q' E s₁) {o : Obj} {es : Array (Int × Value)} {ep : Nat} {t : SetTable} (ho : s.heap.get? a = some o) (hex : o.ExactSet) (hd : o.data = .set es ep t)
    {e1 : Array (Int × Value)} {t2 : SetTable} {S' : Str → Bool} (g1 : ∀ e ∈ e1.toList, isTxt P w e) (nd : (e1.toList.map keyS).Nodup) (m1 : ∀ k, S' k = true ↔ k ∈ e1.toList.map keyS) (hb : e1.size < scanBound) (hf : t2.fits e1.size = true) (hr : Ris t2.place.toList) (hl : w.params.followText "set-order" = true ∨ t2.led = true)
    {was : Bool} {R : Option Bool → Shared → Prop} (hR : ∀ h', Heap.SameBut a s.heap h' → TxtSet P w h' a S' e1.size → R (some true) { s with heap := h' }) :
    wpAny (model P w) A (do storeSet a e1 t2; if (!was && t2.tooFull) = true then do { g (relayAll t2 e1 (SetTable.grown e1.size)).2.2; storeSet a (relayAll t2 e1 (SetTable.grown e1.size)).1 (relayAll t2 e1 (SetTable.grown e1.size)).2.1; pure (some true) } else pure (some true)) R E s := by
  refine wpAny_bind (wpAny_storeSet_of ho hd ?_ (fits_of_scanBound hb))
  have q1 := store_at (es' := e1) (t' := t2) ho hd
  have sb := Heap.SameBut.update s.heap a (Obj.putSet e1 t2)
  by_cases hc : (!was && t2.tooFull) = true
  · rw [if_pos hc]
    have pm := relayAll_perm t2 e1 (SetTable.grown e1.size)
    have f3 := relayAll_fits t2 e1 (SetTable.grown e1.size)
    have r3 := relayAll_ris t2 e1 (SetTable.grown e1.size)
    have l3 := relayAll_led t2 e1 (SetTable.grown e1.size)
    revert pm f3 r3 l3
    generalize relayAll t2 e1 (SetTable.grown e1.size) = Z
    obtain ⟨e2, t3, gave⟩ := Z
    intro pm f3 r3 l3
    dsimp only at pm f3 r3 l3 ⊢
    have hz : e2.size = e1.size := by
      have := pm.length_eq
      rwa [Array.length_toList, Array.length_toList] at this
    refine wpAny_bind (hg _ _ _ (wpAny_bind (wpAny_storeSet_of q1 rfl (wpAny_pure (hR _ (sb.trans (Heap.SameBut.update _ a _)) ?_)) (fits_of_scanBound (by rw [hz]; exact hb)))))
    exact ⟨⟨_, e2, _, t3, store_at q1 rfl, hex, rfl, fun e he => g1 e (pm.mem_iff.mp he), (pm.map keyS).nodup_iff.mpr nd, fun k => (m1 k).trans (pm.map keyS).mem_iff.symm, by rw [hz]; exact hb, f3, hz, r3, hl.imp id fun z => by rw [l3]; exact z⟩⟩
  · rw [if_neg hc]
    exact wpAny_pure (hR _ sb ⟨⟨_, e1, _, t2, q1, hex, rfl, g1, nd, m1, hb, hf, rfl, hr, hl⟩⟩)
theorem txt_put {x : Str} {tk : Tok} {Q : Bool → Shared → Prop} (R : TxtSet P w s.heap a S n) (room : n + 1 < scanBound)
    (hQ : ∀ h', Heap.SameBut a s.heap h' → TxtSet P w h' a (fun j => S j || decide (j = x)) (if S x = true then n else n + 1) → Q (!S x) { s with heap := h' }) : wpAny (model P w) A (setAddHashed a (.str x tk) ((strKind P w).hash x)) Q E s := by
  obtain ⟨o, es, ep, t, ho, hex, hd, g, nd, hm, hb, hf, hn, hr, hl⟩ := R.all
  have hk := strKind_is P w x tk
  have hsc : (Value.str x tk).scannable = true := rfl
  have hel := txt_elems g
  unfold setAddHashed setAddHashedIn
  refine wpAny_holding (wpAny_bind (wpAny_setState_of ho hd hf ?_))
  dsimp only
  rw [byScan_of hsc hb hel]
  simp only [↓reduceIte]
  unfold setAddByScan
  refine wpAny_bind (wpAny_bind (wpAny_rule (wpAny_bind (wpAny_setScan_of hk ho hd hf hel ?_))))
  cases hfi : List.findIdx? (fun e => (strKind P w).is x e.2) es.toList with
  | some j =>
    obtain ⟨hj, pj, _⟩ := List.findIdx?_eq_some_iff_getElem.mp hfi
    have hS : S x = true := (hm x).2 ((txt_mem g x).2 ⟨es.toList[j], List.getElem_mem hj, pj⟩)
    have q := hQ s.heap (Heap.SameBut.refl a s.heap) (R.cg (fun i => by
      by_cases e : i = x
      · subst e; simp [hS]
      · simp [e]) (by rw [if_pos hS]))
    rw [hS] at q
    exact wpAny_pure (wpAny_pure q)
  | none =>
    have no : x ∉ es.toList.map keyS := fun z => by
      obtain ⟨e, he, q⟩ := (txt_mem g x).1 z
      have c := List.findIdx?_eq_none_iff.mp hfi e he
      rw [q] at c
      cases c
    have hS : S x = false := by
      cases q : S x with
      | false => rfl
      | true => exact absurd ((hm x).1 q) no
    have gw : ∀ (b : Bool) {s₁ : Shared} {Q' : Unit → Shared → Prop}, Q' () s₁ → wpAny (model P w) A (match b with | true => rule "set.scan.the-table-gave-way" | false => pure ()) Q' E s₁ := fun b s₁ Q' q => by
      cases b
      · exact wpAny_pure q
      · exact wpAny_rule q
    dsimp only
    have pm := layNew_perm t es ((strKind P w).hash x) (.str x tk)
    have f1 := layNew_fits t es ((strKind P w).hash x) (.str x tk)
    have r1 := layNew_ris t es ((strKind P w).hash x) (.str x tk) hr
    have l1 := layNew_led t es ((strKind P w).hash x) (.str x tk)
    revert pm f1 r1 l1
    generalize layNew t es ((strKind P w).hash x) (.str x tk) = Z
    obtain ⟨e1, t1, was, gave⟩ := Z
    intro pm f1 r1 l1
    dsimp only at pm f1 r1 l1 ⊢
    rw [Array.toList_push] at pm
    have pc : e1.toList.Perm (((strKind P w).hash x, Value.str x tk) :: es.toList) := pm.trans (List.perm_append_singleton _ _)
    have pk : (e1.toList.map keyS).Perm (x :: es.toList.map keyS) := pc.map keyS
    have g1 : ∀ e ∈ e1.toList, isTxt P w e := fun e he => (List.mem_cons.mp (pc.mem_iff.mp he)).elim (fun z => by rw [z]; exact ⟨x, tk, rfl, rfl⟩) (g e)
    have nd1 : (e1.toList.map keyS).Nodup := pk.nodup_iff.mpr (List.nodup_cons.mpr ⟨no, nd⟩)
    have m1 : ∀ i, (S i || decide (i = x)) = true ↔ i ∈ e1.toList.map keyS := fun i => by
      rw [Bool.or_eq_true, decide_eq_true_eq, hm i, pk.mem_iff, List.mem_cons]
      exact Or.comm
    have hz : e1.size = n + 1 := by
      have := pc.length_eq
      rw [Array.length_toList, List.length_cons, Array.length_toList] at this
      omega
    have hb1 : e1.size < scanBound := by rw [hz]; exact room
    have ld : w.params.followText "set-order" = true ∨ t1.led = true := hl.imp id fun z => by rw [l1]; exact z
    have fin : ∀ h', Heap.SameBut a s.heap h' → TxtSet P w h' a (fun j => S j || decide (j = x)) e1.size → Q true { s with heap := h' } := fun h' sb r => by
      have q := hQ h' sb
      rw [hS] at q
      rw [hz] at r
      exact q r
    refine wpAny_bind (gw _ ?_)
    have gg : ∀ (b : Bool) (s₁ : Shared) (Q' : Unit → Shared → Prop), Q' () s₁ → wpAny (model P w) A (match b with | true => rule "set.scan.the-table-gave-way" | false => pure ()) Q' E s₁ := fun b s₁ Q' q => gw b q
    split
    · refine wpAny_bind ?_
      rw [hashByValue_scannable 8 hsc]
      refine wpAny_pure (txt_tail ?_ ho hex hd g1 nd1 m1 hb1 ?_ ?_ ?_ fun h' sb r => ?_)
      · intro b s₁ Q' q
        cases b
        · first | exact wpAny_pure q | exact wpAny_rule q
        · first | exact wpAny_rule q | exact wpAny_pure q
      · first | exact f1 | (split <;> first | exact f1 | exact SetTable.fits_plain_off f1)
      · first | exact r1 | (split <;> exact r1)
      · first | exact ld | (split <;> exact ld)
      · exact wpAny_pure (fin h' sb r)
    · refine wpAny_bind (wpAny_pure ?_)
      simp only [↓reduceIte]
      refine txt_tail ?_ ho hex hd g1 nd1 m1 hb1 f1 r1 ld fun h' sb r => wpAny_pure (fin h' sb r)
      intro b s₁ Q' q
      cases b
      · first | exact wpAny_pure q | exact wpAny_rule q
      · first | exact wpAny_rule q | exact wpAny_pure q
end
end DL
namespace DL
open PySem PySem.Spec L2
open PyProof.Rows hiding St
theorem strsAre_get : ∀ {us : List Value} {xs : List Str}, StrsAre us xs → ∀ (i : Nat) (v : Value), us[i]? = some v → ∃ x t, xs[i]? = some x ∧ v = .str x t
  | _, _, .nil, i, v, h => by simp at h
  | _, _, .cons x t hr, 0, v, h => ⟨x, t, rfl, (Option.some.inj (by simpa using h)).symm⟩
  | _, _, .cons x t hr, i + 1, v, h => strsAre_get hr i v (by simpa using h)
section
variable {prog : Program} {w : World} {A : Around} {R : Result → Shared → Prop} {I : Addr} {fp wr : List Addr} {G : Array GenState → Array GenState → Prop} {n : Nat} {P : Nat → Value → Prop} {St : Nat → Shared → Prop}
/-- the members that come from a walk of texts -/
theorem txt_loop (W : WalksS prog w A.in1 I fp wr G n P St) (S : Addr) (hSf : S ∉ fp) (xs : List Str) (hz : xs.length = n) (hb : n + 1 < scanBound) (hval : ∀ i v, P i v → ∃ x t, xs[i]? = some x ∧ v = .str x t) :
    ∀ (k i m : Nat) (s : Shared), n - i = k → i ≤ n → m ≤ i → St i s → TxtSet prog w s.heap S (fun x => decide (x ∈ xs.take i)) m →
      (∀ s' m', Moved (S :: wr) G s s' → m' ≤ n → TxtSet prog w s'.heap S (fun x => decide (x ∈ xs)) m' → R (.ok (.ret .none)) s') →
      codeAny (model prog w) A (.builtin "set.update.loop" ⟨[.ref S, .ref I], []⟩) R s := by
  have hSw : S ∉ wr := fun h => hSf (W.sub _ h)
  have sub : ∀ b ∈ wr, b ∈ S :: wr := fun b hb => List.mem_cons_of_mem _ hb
  intro k
  induction k with
  | zero =>
    intro i m s hk hi hm hst hS hR
    have e : i = n := by omega
    subst e
    refine codeAny_builtin PyProof.Rows.F.entry_set_update_loop ?_
    rw [Around.under_plainId PyProof.Rows.F.plain_set_update_loop _]
    show wpAny _ A.in1 (pyNext (.ref I) >>= _) _ _ s
    refine wpAny_bind (W.done s _ _ hst fun s' mv => ?_)
    show wpAny _ A.in1 (ret Value.none) _ _ s'
    refine wpAny_pure (hR s' m (mv.mono sub) hm ((hS.stay fun o => mv.heap S o hSw).cg (fun x => ?_) rfl))
    rw [← hz, List.take_length]
  | succ k ih =>
    intro i m s hk hi hm hst hS hR
    have lt : i < n := by omega
    refine codeAny_builtin PyProof.Rows.F.entry_set_update_loop ?_
    rw [Around.under_plainId PyProof.Rows.F.plain_set_update_loop _]
    show wpAny _ A.in1 (pyNext (.ref I) >>= _) _ _ s
    refine wpAny_bind (W.item i s _ _ lt hst fun v s' hP hst' mv => ?_)
    obtain ⟨x, t, hx, rfl⟩ := hval i v hP
    have S1 := hS.stay fun o => mv.heap S o hSw
    show wpAny _ A.in1 (holding [Value.str x t] (setAdd S (.str x t)) >>= _) _ _ s'
    refine wpAny_bind (wpAny_holding ?_)
    unfold setAdd
    refine wpAny_holding (wpAny_bind ((strKind prog w).pyHash (k := x) (strKind_is _ _ _ _) ?_))
    refine txt_put (s := { s' with toks := s'.toks + 1 }) S1 (by omega) fun h' sb S2 => ?_
    have tk : xs.take (i + 1) = xs.take i ++ [x] := by rw [List.take_add_one, hx]; rfl
    have S3 : TxtSet prog w h' S (fun y => decide (y ∈ xs.take (i + 1))) (if decide (x ∈ xs.take i) = true then m else m + 1) := S2.cg (fun y => by
      rw [tk]
      by_cases h1 : y ∈ xs.take i <;> by_cases h2 : y = x <;> simp [h1, h2]) rfl
    refine wpAny_pure ⟨plainId_quiet PyProof.Rows.F.plain_set_update_loop _, ih (i + 1) _ _ (by omega) lt ?_ (W.frame _ s' _ _ hst' (Nat.le_succ _) fun b hb o e => ?_) S3 fun s'' m' mv2 hm' hS' => ?_⟩
    · split <;> omega
    · rw [sb.2 b (fun z : b = S => hSf (by rw [← z]; exact hb))]
      exact e
    · refine hR s'' m' (Moved.trans W.gtrans ((mv.mono sub).then_heap (Nat.le_succ _) fun b o hb e => ?_) mv2) hm' hS'
      rw [sb.2 b (fun z : b = S => hb (by rw [z]; exact List.mem_cons_self))]
      exact e
end
section
variable {prog : Program} {w : World} {A : Around} {E : Value → Shared → Prop} {s : Shared}
/-- set.__new__ of one argument: the empty set, with its ledger as the settings say -/
theorem txt_new (a : Value) {Q₁ : Value → Shared → Prop}
    (h : Q₁ (.ref s.heap.objs.size) { s with heap := s.heap.push { cls := .type "set", dict := none, data := .set #[] 0 (.fresh 0 0 (!w.params.followText "set-order")) } }) :
    codeAny (model prog w) A (.call (.builtin "set.__new__") ⟨[.type "set", a], []⟩) (wants Q₁ E) s := by
  refine codeAny_of_tree ?_
  show wpAny _ A.in1 (do checkBuiltinCall "set.__new__" ⟨[.type "set", a], []⟩; again (.builtin "set.__new__" ⟨[.type "set", a], []⟩)) _ _ s
  refine wpAny_bind (wpAny_of_eq (show checkBuiltinCall "set.__new__" ⟨[.type "set", a], []⟩ = pure () by kernel_rfl) (wpAny_pure ⟨plainId_quiet PySem.F.plain_set_new _, codeAny_builtin PySem.F.entry_set_new ?_⟩))
  rw [Around.under_plainId PySem.F.plain_set_new _]
  unfold Builtin.«set.__new__» Builtin.Frozenset.newClass
  have hsub : isSubtype (.type "set") (.type "set") = pure true := by rw [isSubtype_type]; kernel_rfl
  obtain ⟨hp, g, d, tk, os⟩ := s
  dsimp only
  wp_walk
  refine wpAny_askSetting (wpAny_pure ?_)
  dsimp only
  simp only [newObj]
  exact wpAny_bind (wpAny_alloc (wpAny_pure (wpAny_pure h)))

/-- set(t), t a tuple of texts -/
theorem txt_of_tuple {l : Addr} {items : Array Value} {xs : List Str} {Q : Value → Shared → Prop} (hh : A.handled = none) (hl : s.heap.IsTuple l items) (hi : StrsAre items.toList xs) (hb : xs.length + 1 < scanBound)
    (h : ∀ (h' : Heap) (tk m : Nat), m ≤ xs.length → TxtSet prog w h' s.heap.objs.size (fun x => decide (x ∈ xs)) m → (∀ b o, b < s.heap.objs.size → s.heap.get? b = some o → h'.get? b = some o) → s.heap.objs.size ≤ h'.objs.size → Q (.ref s.heap.objs.size) { s with heap := h', toks := tk }) :
    wpAny (model prog w) A (call (.type "set") [.ref l]) Q E s := by
  obtain ⟨c, tl, hmro⟩ := PySem.F.called_set.mro
  have made := PySem.F.called_set.made
  have sub := PySem.F.called_set.sub
  refine wpAny_call (codeAny_of_tree ?_)
  show wpAny _ _ (callAny (.type "set") _) _ _ _
  refine wpAny_pure ⟨Code.quiet_builtin _ (by decide +kernel), codeAny_builtin PySem.F.entry_type_call ?_⟩
  rw [Around.under_plain (weight_type_call_type "set" [.ref l] []) rfl]
  have n1 := PySem.F.called_set.notType
  have n2 := PySem.F.called_set.canCreate
  have n3 := PySem.F.typeCall_set_1 (.ref l)
  repeat (any_goals (first | assumption | wp_step))
  refine codeAny_mono (txt_new (.ref l) (E := E) (Q₁ := fun obj s₁ => obj = .ref s.heap.objs.size ∧ s₁ = { s with heap := s.heap.push { cls := .type "set", dict := none, data := .set #[] 0 (.fresh 0 0 (!w.params.followText "set-order")) } }) ⟨rfl, rfl⟩) fun r s₁ hr => ?_
  cases r with
  | error e => exact hr
  | ok fl =>
    cases fl with
    | ret obj =>
      obtain ⟨rfl, rfl⟩ := hr
      generalize hled : (!w.params.followText "set-order") = led
      have hS : (s.heap.push { cls := .type "set", dict := none, data := .set #[] 0 (.fresh 0 0 led) }).get? s.heap.objs.size = some { cls := .type "set", dict := none, data := .set #[] 0 (.fresh 0 0 led) } := Heap.get?_push_size _ rfl
      have hT : Shared.TypeIs { s with heap := s.heap.push { cls := .type "set", dict := none, data := .set #[] 0 (.fresh 0 0 led) } } (.ref s.heap.objs.size) "set" := ⟨_, hS, rfl⟩
      have i1 := PySem.F.called_set.init.lookup
      have i2 := PySem.F.called_set.init.bind (.ref s.heap.objs.size)
      repeat (any_goals (first | assumption | wp_step))
      refine codeAny_mono (codeAny_call_builtin (R := wants (fun r s₂ => r = .none ∧ ∃ h' tk m, s₂ = { s with heap := h', toks := tk } ∧ m ≤ xs.length ∧ TxtSet prog w h' s.heap.objs.size (fun x => decide (x ∈ xs)) m ∧
          (∀ b o, b < s.heap.objs.size → s.heap.get? b = some o → h'.get? b = some o) ∧ s.heap.objs.size ≤ h'.objs.size) E) PySem.F.called_set.init.plain PySem.F.entry_set_init (check_set_init_1 hT ?_)) fun r₂ s₂ hr₂ => ?_
      · obtain ⟨ol, hol, hcl, nl, hdl⟩ := hl
        obtain ⟨ocls, odict, odata, oslots⟩ := ol
        simp only at hcl hdl
        subst hcl hdl
        have hol' : (s.heap.push { cls := .type "set", dict := none, data := .set #[] 0 (.fresh 0 0 led) }).get? l = some { cls := .type "tuple", dict := odict, data := .seq items nl, slots := oslots } := Heap.get?_push_of_some _ hol
        have u1 := PySem.F.sub_tuple_set
        have u2 := PySem.F.sub_tuple_frozenset
        have u3 : (Value.type "tuple" == Value.type "dict") = false := by decide
        have hl1 : (s.heap.push { cls := .type "set", dict := none, data := .set #[] 0 (.fresh 0 0 led) }).IsTuple l items := ⟨_, hol', rfl, nl, rfl⟩
        unfold Builtin.«set.__init__» noKeywords Builtin.Frozenset.updateFrom
        generalize hPI : pyIter = PI
        wp_walk
        subst hPI
        refine wpAny_pyIter_tuple hl1 (wpAny_bind (wpAny_runValue ?_))
        have hlS : l < s.heap.objs.size := Heap.lt_size hol
        have h3 : A.in1.in1.in1.handled = none := by simp [hh]
        have neI : l ≠ (s.heap.push { cls := .type "set", dict := none, data := .set #[] 0 (.fresh 0 0 led) }).objs.size := by
          rw [Heap.size_push]
          exact Nat.ne_of_lt (Nat.lt_succ_of_lt hlS)
        have nS : s.heap.objs.size ∉ [(s.heap.push { cls := .type "set", dict := none, data := .set #[] 0 (.fresh 0 0 led) }).objs.size, l] := by
          rw [Heap.size_push]
          simp only [List.mem_cons, List.not_mem_nil, or_false, not_or]
          exact ⟨Nat.ne_of_lt (Nat.lt_succ_self _), Nat.ne_of_gt hlS⟩
        have hz : xs.length = items.size := by rw [← StrsAre.len_eq hi, Array.length_toList]
        have hget : ((s.heap.push { cls := .type "set", dict := none, data := .set #[] 0 (.fresh 0 0 led) }).push { cls := .type "tuple_iterator", data := .fields #[.ref l, .int 0 0] }).get? s.heap.objs.size = some { cls := .type "set", dict := none, data := .set #[] 0 (.fresh 0 0 led) } := Heap.get?_push_of_some _ hS
        refine txt_loop ((Walks.tuple h3 _ l neI items).toS) s.heap.objs.size nS xs hz (by rw [← hz]; exact hb) (fun i v hv => strsAre_get hi i v (by rw [Array.getElem?_toList]; exact hv)) (items.size - 0) 0 0 _ (by omega) (Nat.zero_le _) (Nat.le_refl _) ⟨⟨_, Heap.get?_push_size _ rfl, rfl, rfl⟩, hl1.push _⟩ ?hS0 ?hR
        case hS0 =>
          refine ⟨⟨_, #[], 0, _, hget, ⟨rfl, rfl, rfl⟩, rfl, fun e he => by simp at he, by simp, fun x => by simp, by decide, rfl, rfl, List.Pairwise.nil, ?_⟩⟩
          show _ ∨ led = true
          rw [← hled]
          cases w.params.followText "set-order"
          · exact .inr rfl
          · exact .inl rfl
        case hR =>
          intro s' m' mv hm' hS'
          obtain ⟨h', g', d', tk', os'⟩ := s'
          have eg : g' = s.gens := mv.gens
          have ed : d' = s.drawn := mv.drawn
          have eo : os' = s.os := mv.os
          subst eg ed eo
          show wpAny _ _ _ _ _ _
          refine wpAny_pure ?_
          show wpAny _ _ (ret Value.none) _ _ _
          have kp : ∀ b o, b < s.heap.objs.size → s.heap.get? b = some o → h'.get? b = some o := fun b o hb e => by
            have b1 : b ≠ s.heap.objs.size := Nat.ne_of_lt hb
            have b2 : b ≠ (s.heap.push { cls := .type "set", dict := none, data := .set #[] 0 (.fresh 0 0 led) }).objs.size := by
              rw [Heap.size_push]
              exact Nat.ne_of_lt (Nat.lt_succ_of_lt hb)
            exact mv.heap b o (by simp only [List.mem_cons, List.not_mem_nil, or_false, not_or]; exact ⟨b1, b2⟩) (Heap.get?_push_of_some _ (Heap.get?_push_of_some _ e))
          refine wpAny_pure ⟨rfl, h', tk', m', rfl, by rw [hz]; exact hm', hS', kp, ?_⟩
          obtain ⟨o, _, _, _, ho, _⟩ := hS'.all
          exact Nat.le_of_lt (Heap.lt_size ho)
      · cases r₂ with
        | error e => exact hr₂
        | ok fl₂ =>
          cases fl₂ with
          | ret r =>
            obtain ⟨rfl, h', tk, m, rfl, hm, hS', hk', hsz⟩ := hr₂
            repeat (any_goals (first | assumption | wp_step))
            exact h _ _ m hm hS' hk' hsz
          | _ => exact hr₂.elim
    | _ => exact hr.elim
end
end DL

set_option Elab.async false
set_option linter.all false
set_option maxRecDepth 100000
set_option maxHeartbeats 2000000
namespace DL
open PySem PySem.Spec L2
open PyProof.Rows hiding St

/-! ### texts in order -/
def ltS (x y : Str) : Bool := decide (x.cps.toList < y.cps.toList)
def insS (x : Str) : List Str → List Str
  | [] => [x]
  | y :: r => if ltS x y then x :: y :: r else if ltS y x then y :: insS x r else y :: r
/-- the texts of a list, each once, ascending -/
def sortS (l : List Str) : List Str := l.foldr insS []
theorem str_of_cps {x y : Str} (h : x.cps.toList = y.cps.toList) : x = y := by
  obtain ⟨⟨a⟩⟩ := x
  obtain ⟨⟨b⟩⟩ := y
  have h : a = b := h
  subst h
  rfl
theorem ltS_irr (x : Str) : ltS x x = false := decide_eq_false (List.lt_irrefl _)
theorem ltS_trans {x y z : Str} (a : ltS x y = true) (b : ltS y z = true) : ltS x z = true := decide_eq_true (List.lt_trans (of_decide_eq_true a) (of_decide_eq_true b))
theorem ltS_tri {x y : Str} (a : ltS x y = false) (b : ltS y x = false) : x = y := by
  refine str_of_cps (List.le_antisymm ?_ ?_)
  · exact List.not_lt.mp (of_decide_eq_false b)
  · exact List.not_lt.mp (of_decide_eq_false a)
theorem mem_insS {x z : Str} : ∀ {l : List Str}, z ∈ insS x l ↔ z = x ∨ z ∈ l
  | [] => by simp [insS]
  | y :: r => by
    unfold insS
    split
    · simp
    · rename_i h1
      split
      · rw [List.mem_cons, mem_insS, List.mem_cons]
        exact ⟨fun h => h.elim (fun e => .inr (.inl e)) fun h => h.elim .inl fun h => .inr (.inr h), fun h => h.elim (fun e => .inr (.inl e)) fun h => h.elim .inl fun h => .inr (.inr h)⟩
      · rename_i h2
        have e : x = y := ltS_tri (by simpa using h1) (by simpa using h2)
        subst e
        simp
theorem mem_sortS {z : Str} : ∀ {l : List Str}, z ∈ sortS l ↔ z ∈ l
  | [] => by simp [sortS]
  | x :: l => by
    show z ∈ insS x (sortS l) ↔ _
    rw [mem_insS, mem_sortS, List.mem_cons]
abbrev Asc (l : List Str) : Prop := l.Pairwise fun a b => ltS a b = true
theorem asc_insS {x : Str} : ∀ {l : List Str}, Asc l → Asc (insS x l)
  | [], _ => by simp [insS]
  | y :: r, h => by
    obtain ⟨h1, h2⟩ := List.pairwise_cons.mp h
    unfold insS
    split
    · rename_i q
      exact List.pairwise_cons.mpr ⟨fun z hz => (List.mem_cons.mp hz).elim (fun e => by rw [e]; exact q) fun hz => ltS_trans q (h1 z hz), h⟩
    · split
      · rename_i q
        exact List.pairwise_cons.mpr ⟨fun z hz => (mem_insS.mp hz).elim (fun e => by rw [e]; exact q) (h1 z), asc_insS h2⟩
      · exact h
theorem asc_sortS : ∀ (l : List Str), Asc (sortS l)
  | [] => List.Pairwise.nil
  | x :: l => asc_insS (asc_sortS l)
theorem asc_one : ∀ {l m : List Str}, Asc l → Asc m → (∀ z, z ∈ l ↔ z ∈ m) → l = m
  | [], [], _, _, _ => rfl
  | [], y :: m, _, _, h => by simpa using (h y).mpr List.mem_cons_self
  | x :: l, [], _, _, h => by simpa using (h x).mp List.mem_cons_self
  | x :: l, y :: m, a, b, h => by
    obtain ⟨a1, a2⟩ := List.pairwise_cons.mp a
    obtain ⟨b1, b2⟩ := List.pairwise_cons.mp b
    have e : x = y := by
      rcases List.mem_cons.mp ((h x).mp List.mem_cons_self) with e | hx
      · exact e
      · rcases List.mem_cons.mp ((h y).mpr List.mem_cons_self) with e | hy
        · exact e.symm
        · have := ltS_trans (b1 x hx) (a1 y hy)
          rw [ltS_irr] at this
          cases this
    subst e
    have ne : ∀ z, ltS x z = true → z ≠ x := fun z q e => by
      rw [e, ltS_irr] at q
      cases q
    rw [asc_one a2 b2 fun z => ⟨fun hz => ((List.mem_cons.mp ((h z).mp (List.mem_cons_of_mem _ hz))).resolve_left (ne z (a1 z hz))), fun hz => ((List.mem_cons.mp ((h z).mpr (List.mem_cons_of_mem _ hz))).resolve_left (ne z (b1 z hz)))⟩]
theorem asc_of : ∀ (l : List Str), sortedS l = true → l.Nodup → Asc l
  | [], _, _ => List.Pairwise.nil
  | x :: r, h, d => by
    have go : ∀ (r : List Str) (p : Str), risingS p r = true → (p :: r).Nodup → Asc (p :: r) := fun r => by
      induction r with
      | nil => exact fun p _ _ => List.pairwise_singleton _ _
      | cons y r ih =>
        intro p hp hd
        simp only [risingS, Bool.and_eq_true, Bool.not_eq_true'] at hp
        obtain ⟨d1, d2⟩ := List.nodup_cons.mp hd
        have q := ih y hp.2 d2
        have py : ltS p y = true := by
          cases e : ltS p y with
          | true => rfl
          | false =>
            have e2 : ltS y p = false := by
              have := hp.1
              rw [ltCps_eq] at this
              exact this
            exact absurd (by rw [ltS_tri e e2]; exact List.mem_cons_self) d1
        refine List.pairwise_cons.mpr ⟨fun z hz => ?_, q⟩
        rcases List.mem_cons.mp hz with e | hz
        · rw [e]; exact py
        · exact ltS_trans py ((List.pairwise_cons.mp q).1 z hz)
    exact go r x h d

section
variable {P : Program} {w : World} {A : Around} {E : Value → Shared → Prop} {s : Shared} {a : Addr} {S : Str → Bool} {n : Nat}
theorem strsAre_of_txt : ∀ (l : List Value), (∀ v ∈ l, ∃ x tk, v = Value.str x tk) → StrsAre l (l.map strOf)
  | [], _ => .nil
  | v :: l, h => by
    obtain ⟨x, tk, rfl⟩ := h v List.mem_cons_self
    exact .cons x tk (strsAre_of_txt l fun u hu => h u (List.mem_cons_of_mem _ hu))
theorem keyS_of {e : Int × Value} (g : isTxt P w e) : strOf e.2 = keyS e := by
  obtain ⟨x, tk, e1, _⟩ := g
  unfold keyS
  rw [e1]
  rfl
theorem txt_sorted {Q : Value → Shared → Prop} (R : TxtSet P w s.heap a S n) (hh : A.handled = none) (h64 : n < 64)
    (hQ : ∀ s' p (out : Array Value) (c : Nat) (ss : List Str), (∀ b o, s.heap.get? b = some o → s'.heap.get? b = some o) → s'.gens = s.gens → s'.os = s.os → s.heap.objs.size ≤ p →
      s'.heap.get? p = some (seqObj "list" out c) → StrsAre out.toList ss → Asc ss → (∀ x, x ∈ ss ↔ S x = true) → ss.length = n → Q (.ref p) s') : wpAny (model P w) A (call (.builtin "sorted") [.ref a]) Q E s := by
  obtain ⟨o, es, ep, t, ho, hex, hd, g, nd, hm, hb, hf, hn, hr, hl⟩ := R.all
  refine Calls.call_function_entry kind_sorted plain_sorted entry_sorted (args_sorted1 _) ?_
  unfold Builtin.«sorted»
  refine wpAny_bind (m := checkCount "sorted" 1 1 _) (wpAny_pure (wpAny_bind (collect_set (A := A.in1) hh ⟨o, ho, hex.1, hd⟩ hf hb hr hl fun s1 vs k1 hz g1 o1 pm => ?_)))
  have hvl : vs.length = n := by rw [pm.length_eq, List.length_map, Array.length_toList]; exact hn
  have hI : StrsAre vs (vs.map strOf) := strsAre_of_txt vs fun v hv => by
    obtain ⟨e, he, q⟩ := List.mem_map.mp (pm.mem_iff.mp hv)
    obtain ⟨x, tk, e1, _⟩ := g e he
    exact ⟨x, tk, by rw [← q]; exact e1⟩
  have pk : (vs.map strOf).Perm (es.toList.map keyS) := by
    have q := pm.map strOf
    rw [List.map_map] at q
    rw [← List.map_congr_left (fun e he => keyS_of (g e he))]
    exact q
  refine wpAny_bind (wpAny_newList ?_ (by rw [hvl, sizeLine_eq]; omega))
  have hoL : (s1.heap.push (seqObj "list" vs.toArray 0)).get? s1.heap.objs.size = some (seqObj "list" vs.toArray 0) := Heap.get?_push_size _ rfl
  refine wpAny_bind (wpAny_holding (wpAny_call_entry slot_list_sort ⟨_, hoL, rfl⟩ entry_list_sort (list_sort_treeK strKind_oneLt hoL hI.keysOf (fun v₁ v₂ rest e => keyKind_strs (by rw [← e]; exact hI)) (by rw [hvl]; exact h64) fun st' hp hs => ⟨_, rfl, ?_⟩) (args_list_sort _)))
  obtain ⟨ss, q1, q2, q3⟩ := sorted_out_str hI hp hs
  obtain ⟨c, hc⟩ := sortedHeap_at (vs := vs) (out := (arrOf st').map (·.2)) hoL
  have pn : ss.Perm (es.toList.map keyS) := q2.trans pk
  refine wpAny_pure ⟨_, rfl, hQ _ s1.heap.objs.size _ c ss (fun b u e => ?_) g1 o1 hz hc q1 (asc_of ss q3 (pn.nodup_iff.mpr nd)) (fun k => by rw [pn.mem_iff, ← hm k]) ?_⟩
  · have q := k1 b u e
    have lt := Heap.lt_size q
    show (sortedHeap (s1.heap.push (seqObj "list" vs.toArray 0)) s1.heap.objs.size vs _).get? b = some u
    rw [sortedHeap_old (Nat.ne_of_lt lt) (by rw [size_push']; exact Nat.lt_succ_of_lt lt)]
    exact Heap.get?_push_of_some _ q
  · rw [pn.length_eq, List.length_map, Array.length_toList]
    exact hn
end

def tSortedSet (K : Zx) (ta : TE) : TE := fun σ H Q => ta σ H fun x H1 => ∃ (l : Addr) (xs : List Str), x = .ref l ∧ SqT K H1 l (xs.map V.str) ∧ xs.length < 60 ∧ ∀ p, H1 p = none → Q (.ref p) (upd H1 p (.lst ((sortS xs).map V.str)))
section
variable {X : Cx} {W : WX}
theorem pe_sortedSet {a : Expr} {ta : TE} {p p2 q pos : Pos} (hc : X.calm = true) (hg : Gl X "sorted") (hm : X.mg "sorted" = none) (hg2 : Gl X "set") (hm2 : X.mg "set" = none) (ha : PE X a ta)
    (na : starEach [a] X.env = (false, eval a X.env) :: starEach [] X.env := by rfl) : PE X (.Call (.Name "sorted" p) [.Call (.Name "set" p2) [a] [] q] [] pos) (tSortedSet (zOf X) ta) := by
  refine ⟨fun pins s σ H Q I h => Call_ (ld_blt I hg hm boot_sorted ?_)⟩
  refine callWith_builtin1 (args_cons ?_ rfl) rfl rfl
  refine Call_ (ld_blt I hg2 hm2 boot_set (callWith_type1 (args_cons (thn (ha.run pins s σ H _ I h) fun v s1 ⟨x, H1, I1, r1, q1⟩ => args_nil ?_) na) na rfl))
  obtain ⟨l, xs, rfl, hq, hl, q1⟩ := q1
  cases r1
  obtain ⟨its, r, pl, hz⟩ := I1.tuple hq
  refine txt_of_tuple (I1.ok.hd hc) (show s1.heap.IsTuple l its.toArray from pl) (by simpa using strsAre_of r) (by unfold scanBound; omega) fun h' tk m hm' hS hk hsz => args_nil ?_
  have I2 : Inv X pins σ H1 { s1 with heap := h', toks := tk } := I1.kept fun b o e => hk b o (Heap.lt_size e) e
  refine txt_sorted (s := { s1 with heap := h', toks := tk }) hS (I1.ok.hd hc) (by omega) fun s' p' out c ss kp eg eo hp' hob hst ha' hmem hlen => ?_
  have es : ss = sortS xs := asc_one ha' (asc_sortS xs) fun z => by rw [hmem, mem_sortS]; exact decide_eq_true_iff
  subst es
  obtain ⟨hp2, g2, d2, t2, o2⟩ := s'
  have eg : g2 = s1.gens := eg
  have eo : o2 = s1.os := eo
  subst eg eo
  have hf : H1 p' = none := I2.hok.fresh hp'
  refine ⟨.ref p', upd H1 p' (.lst ((sortS xs).map V.str)), ?_, rfl, q1 p' hf⟩
  have hlen2 : ((sortS xs).map V.str).length ≤ sizeLine := by
    rw [List.length_map, hlen, sizeLine_eq]
    omega
  refine I2.call (h' := hp2) (g' := s1.gens) (d' := d2) (t' := t2) (ch := []) (Un.laid kp hp' hf) (I2.hok.laid kp hp' ⟨hlen2, out.toList, c, vals_of_strs hst, hob⟩) I2.bare fun b z => absurd z (by simp)
def strsD : List D → Option (List Str)
  | [] => some []
  | .str x :: r => (strsD r).map (x :: ·)
  | _ => none
theorem strsD_reps {K : Zx} {β : Bx} {H : Hp} : ∀ {l : List D} {xs : List V} {ss : List Str}, Reps K β H xs l → strsD l = some ss → xs = ss.map V.str
  | [], _, _, r, e => by
    cases r
    cases e
    rfl
  | d :: l, _, _, r, e => by
    cases r with
    | cons r1 r2 =>
      cases d <;> simp only [strsD, reduceCtorEq] at e
      rw [Option.map_eq_some_iff] at e
      obtain ⟨ss, hs, rfl⟩ := e
      cases r1
      rw [strsD_reps r2 hs]
      rfl
theorem reps_strs {K : Zx} {β : Bx} {H : Hp} : ∀ (ss : List Str), Reps K β H (ss.map V.str) (ss.map D.str)
  | [] => .nil
  | x :: ss => .cons (.str x) (reps_strs ss)
def mSortedSet : D → Sto → Option D
  | .tup l, _ => match strsD l with
    | some ss => if ss.length < 60 ∧ (sortS ss).length ≤ LIM then some (.lst ((sortS ss).map D.str)) else none
    | none => none
  | _, _ => none
theorem de_sortedSet {a : Expr} {f : G D} {p p2 q pos : Pos} (hc : X.calm = true) (hg : Gl X "sorted") (hm : X.mg "sorted" = none) (hg2 : Gl X "set") (hm2 : X.mg "set" = none) (ha : DE X W a f)
    (na : starEach [a] X.env = (false, eval a X.env) :: starEach [] X.env := by rfl) : DE X W (.Call (.Name "sorted" p) [.Call (.Name "set" p2) [a] [] q] [] pos) (gUn mSortedSet f) := by
  refine PEmono (pe_sortedSet hc hg hm hg2 hm2 ha na) fun σ H Q h => ?_
  obtain ⟨β, ρ, st, hρ, hs, h⟩ := h
  refine tD_intro hρ hs (Out.sat_bind h) (fun d s1 h1 v β1 H1 e1 S1 r1 => ?_) fun _ _ q => q
  obtain ⟨d3, e, p⟩ := oout_sat h1
  cases d with
  | tup l =>
    simp only [mSortedSet] at e
    split at e
    · rename_i ss hss
      split at e
      · rename_i hz
        cases e
        cases r1 with
        | tup h1 h2 h3 =>
          refine ⟨_, ss, rfl, by rw [← strsD_reps h2 hss]; exact h1, hz.1, fun p' hp => ?_⟩
          exact p (.ref p') β1 _ (e1.trans (Ext.new hp)) (S1.fresh hp) (.lst upd_same (S1.nmem hp) (reps_strs _) (by rw [List.length_map]; exact leLIM hz.2))
      · cases e
    · cases e
  | _ => simp only [mSortedSet, reduceCtorEq] at e
end
end DL

set_option Elab.async false
set_option linter.all false
set_option maxRecDepth 100000
set_option maxHeartbeats 2000000
/-! # Running the functions of data: one row a construct, for simp -/
namespace DL
open PySem PySem.Spec L2
open PyProof.Rows hiding St
section
variable {ρ : Env} {st s1 : Sto} {d e v : D} {x y : Str} {i j : Int} {a b l : List D} {n k : Nat} {p q : Bool} {f g : G D} {fs : G (List D)} {t u : G Bool} {m m' : D → D → Sto → Option D}
def blOut (d : D) (st : Sto) : Out Bool := match d with
  | .bl k => .ok k st
  | _ => .bad
@[simp] theorem e_blOut : blOut (.bl p) st = .ok p st := rfl
@[simp] theorem e_C : gC d ρ st = .ok d st := rfl
@[simp] theorem e_V0 {r : Env} : gVar 0 (some d :: r) st = .ok d st := rfl
@[simp] theorem e_VS {z : Option D} {r : Env} : gVar (n + 1) (z :: r) st = gVar n r st := by simp [gVar]
@[simp] def kOp2 (m : D → D → Sto → Option D) (d e : D) (s2 : Sto) : Out D := oout (m d e s2) s2
@[simp] def kOp (m : D → D → Sto → Option D) (g : G D) (ρ : Env) (d : D) (s1 : Sto) : Out D := (g ρ s1).bind (kOp2 m d)
@[simp] theorem e_Op : gOp m f g ρ st = (f ρ st).bind (kOp m g ρ) := rfl
@[simp] def kUn (m : D → Sto → Option D) (d : D) (s1 : Sto) : Out D := oout (m d s1) s1
@[simp] theorem e_Un {m : D → Sto → Option D} : gUn m f ρ st = (f ρ st).bind (kUn m) := rfl
@[simp] theorem e_Nil : aNil ρ st = .ok [] st := rfl
@[simp] def kCons2 (d : D) (ds : List D) (s2 : Sto) : Out (List D) := .ok (d :: ds) s2
@[simp] def kCons (fs : G (List D)) (ρ : Env) (d : D) (s1 : Sto) : Out (List D) := (fs ρ s1).bind (kCons2 d)
@[simp] theorem e_Cons : aCons f fs ρ st = (f ρ st).bind (kCons fs ρ) := rfl
@[simp] def kCB (m : List D → Sto → Option D) (ds : List D) (s1 : Sto) : Out D := oout (m ds s1) s1
@[simp] theorem e_CB {m : List D → Sto → Option D} : gCB m fs ρ st = (fs ρ st).bind (kCB m) := rfl
@[simp] theorem e_Call {m : List D → Sto → Out D} : gCall m fs ρ st = (fs ρ st).bind m := rfl
@[simp] def kTup (ds : List D) (s1 : Sto) : Out D := if ds.length ≤ 1000 then .ok (.tup ds) s1 else .bad
@[simp] theorem e_TupD : gTupD fs ρ st = (fs ρ st).bind kTup := rfl
@[simp] def kLst (ds : List D) (s1 : Sto) : Out D := if ds.length ≤ 1000 then .ok (.lst ds) s1 else .bad
@[simp] theorem e_LstD : gLstD fs ρ st = (fs ρ st).bind kLst := rfl
@[simp] def kLstM (ds : List D) (s1 : Sto) : Out D := if ds.length ≤ 1000 then .ok (.ref s1.length) (s1 ++ [.lst ds]) else .bad
@[simp] theorem e_LstM : gLstM fs ρ st = (fs ρ st).bind kLstM := rfl
@[simp] theorem e_DctM : gDctM ρ st = .ok (.ref st.length) (st ++ [.dK []]) := rfl
@[simp] def kAnd2 (g : G D) (ρ : Env) (d : D) (k : Bool) (s1 : Sto) : Out D := if k then g ρ s1 else .ok d s1
@[simp] def kAnd (g : G D) (ρ : Env) (d : D) (s1 : Sto) : Out D := (oout (mTru d s1) s1).bind (kAnd2 g ρ d)
@[simp] theorem e_And : gAnd f g ρ st = (f ρ st).bind (kAnd g ρ) := rfl
@[simp] def kOr2 (g : G D) (ρ : Env) (d : D) (k : Bool) (s1 : Sto) : Out D := if k then .ok d s1 else g ρ s1
@[simp] def kOr (g : G D) (ρ : Env) (d : D) (s1 : Sto) : Out D := (oout (mTru d s1) s1).bind (kOr2 g ρ d)
@[simp] theorem e_Or : gOr f g ρ st = (f ρ st).bind (kOr g ρ) := rfl
@[simp] def kNot2 (k : Bool) (s1 : Sto) : Out D := .ok (.bl !k) s1
@[simp] def kNot (d : D) (s1 : Sto) : Out D := (oout (mTru d s1) s1).bind kNot2
@[simp] theorem e_Not : gNot f ρ st = (f ρ st).bind kNot := rfl
@[simp] def kTr (d : D) (s1 : Sto) : Out Bool := oout (mTru d s1) s1
@[simp] theorem e_Tr : gTr f ρ st = (f ρ st).bind kTr := rfl
@[simp] def kIf (f g : G D) (ρ : Env) (k : Bool) (s1 : Sto) : Out D := if k then f ρ s1 else g ρ s1
@[simp] theorem e_If : gIf t f g ρ st = (t ρ st).bind (kIf f g ρ) := rfl
@[simp] def kTNot (k : Bool) (s1 : Sto) : Out Bool := .ok (!k) s1
@[simp] theorem e_TNot : gTNot t ρ st = (t ρ st).bind kTNot := rfl
@[simp] def kTAnd (u : G Bool) (ρ : Env) (k : Bool) (s1 : Sto) : Out Bool := if k then u ρ s1 else .ok false s1
@[simp] theorem e_TAnd : gTAnd t u ρ st = (t ρ st).bind (kTAnd u ρ) := rfl
@[simp] def kTOr (u : G Bool) (ρ : Env) (k : Bool) (s1 : Sto) : Out Bool := if k then .ok true s1 else u ρ s1
@[simp] theorem e_TOr : gTOr t u ρ st = (t ρ st).bind (kTOr u ρ) := rfl
@[simp] theorem e_Bl : gBl f ρ st = (f ρ st).bind blOut := rfl
@[simp] def kCh3 (m' : D → D → Sto → Option D) (e e' : D) (s3 : Sto) : Out Bool := (oout (m' e e' s3) s3).bind blOut
def kCh2 (m' : D → D → Sto → Option D) (e : D) (h : G D) (ρ : Env) (k : D) (s2 : Sto) : Out Bool := match k with
  | .bl true => (h ρ s2).bind (kCh3 m' e)
  | .bl false => .ok false s2
  | _ => .bad
@[simp] theorem e_ch1 {h : G D} : kCh2 m' e h ρ (.bl true) st = (h ρ st).bind (kCh3 m' e) := rfl
@[simp] theorem e_ch0 {h : G D} : kCh2 m' e h ρ (.bl false) st = .ok false st := rfl
@[simp] theorem e_chd {h : G D} {P : Prop} [Decidable P] : kCh2 m' e h ρ (.bl (decide P)) st = if P then (h ρ st).bind (kCh3 m' e) else .ok false st := by
  by_cases c : P
  · rw [if_pos c, decide_eq_true c]
    rfl
  · rw [if_neg c, decide_eq_false c]
    rfl
@[simp] def kCh1 (m m' : D → D → Sto → Option D) (h : G D) (ρ : Env) (d e : D) (s2 : Sto) : Out Bool := (oout (m d e s2) s2).bind (kCh2 m' e h ρ)
@[simp] def kCh (m m' : D → D → Sto → Option D) (g h : G D) (ρ : Env) (d : D) (s1 : Sto) : Out Bool := (g ρ s1).bind (kCh1 m m' h ρ d)
@[simp] theorem e_Chain {h : G D} : gChain m m' f g h ρ st = (f ρ st).bind (kCh m m' g h ρ) := rfl
@[simp] def kB (k : Bool) (s1 : Sto) : Out D := .ok (.bl k) s1
@[simp] theorem e_B : gB t ρ st = (t ρ st).bind kB := rfl
@[simp] theorem e_None : gNone ρ st = .ok none st := rfl
def someOut (d : D) (st : Sto) : Out (Option Int) := match d with
  | .int i => .ok (some i) st
  | _ => .bad
@[simp] theorem e_someOut : someOut (.int i) st = .ok (some i) st := rfl
@[simp] theorem e_Some : gSome f ρ st = (f ρ st).bind someOut := rfl
@[simp] def kSl3 (d : D) (l u : Option Int) (s3 : Sto) : Out D := oout (mSl d l u s3) s3
@[simp] def kSl2 (hi : G (Option Int)) (ρ : Env) (d : D) (l : Option Int) (s2 : Sto) : Out D := (hi ρ s2).bind (kSl3 d l)
@[simp] def kSl (lo hi : G (Option Int)) (ρ : Env) (d : D) (s1 : Sto) : Out D := (lo ρ s1).bind (kSl2 hi ρ d)
@[simp] theorem e_Op3 {lo hi : G (Option Int)} : gOp3 f lo hi ρ st = (f ρ st).bind (kSl lo hi ρ) := rfl
@[simp] def kSeq (d : D) (s1 : Sto) : Out (List D) := oout (mSeq d s1) s1
@[simp] theorem e_Seq : gSeq f ρ st = (f ρ st).bind kSeq := rfl
@[simp] def kRange1 (d : List D) (s1 : Sto) : Out (List D) := oout (mRange1 d) s1
@[simp] theorem e_Range1 : gRange1 fs ρ st = (fs ρ st).bind kRange1 := rfl
@[simp] def kRange2 (d : List D) (s1 : Sto) : Out (List D) := oout (mRange2 d) s1
@[simp] theorem e_Range2 : gRange2 fs ρ st = (fs ρ st).bind kRange2 := rfl
@[simp] def kZip (d : List D) (s1 : Sto) : Out (List D) := oout (mZip d) s1
@[simp] theorem e_Zip : gZip fs ρ st = (fs ρ st).bind kZip := rfl
@[simp] theorem e_Yes : gYes ρ st = .ok true st := rfl
@[simp] def kLs (ys : List D) (s2 : Sto) : Out D := .ok (.lst ys) s2
@[simp] def kComp (vs : List Nat) (pt : Pat) (t : G Bool) (f : G D) (ρ : Env) (items : List D) (s1 : Sto) : Out D := (compGo (wipeE ρ vs) pt t f items s1).bind kLs
@[simp] theorem e_Comp {vs : List Nat} {fi : G (List D)} {pt : Pat} : gComp vs fi pt t f ρ st = (fi ρ st).bind (kComp vs pt t f ρ) := rfl
@[simp] def kLsM (ys : List D) (s2 : Sto) : Out D := .ok (.ref s2.length) (s2 ++ [.lst ys])
@[simp] def kCompM (vs : List Nat) (pt : Pat) (t : G Bool) (f : G D) (ρ : Env) (items : List D) (s1 : Sto) : Out D := (compGo (wipeE ρ vs) pt t f items s1).bind kLsM
@[simp] theorem e_CompM {vs : List Nat} {fi : G (List D)} {pt : Pat} : gCompM vs fi pt t f ρ st = (fi ρ st).bind (kCompM vs pt t f ρ) := rfl
def kgetOut (tab : List (Str × D)) (d : D) (st : Sto) : Out D := match d with
  | .str z => .ok ((tab.lookup z).getD .non) st
  | _ => .bad
@[simp] theorem e_kgetOut {tab : List (Str × D)} : kgetOut tab (.str x) st = .ok ((tab.lookup x).getD .non) st := rfl
@[simp] theorem e_KGet {tab : List (Str × D)} : gKGet tab f ρ st = (f ρ st).bind (kgetOut tab) := rfl
/-! statements -/
variable {r r' : G Fl} {fl : Fl}
@[simp] def kSet (n : Nat) (ρ : Env) (d : D) (s1 : Sto) : Out Fl := .ok (.nx (ρ.set n (some d))) s1
@[simp] theorem e_sSet : sSet n f ρ st = (f ρ st).bind (kSet n ρ) := rfl
def patOut (p : Pat) (ρ : Env) (d : D) (s1 : Sto) : Out Fl := match Pat.set p d ρ with
  | some ρ' => .ok (.nx ρ') s1
  | none => .bad
@[simp] theorem e_sPat {pt : Pat} : sPat pt f ρ st = (f ρ st).bind (patOut pt ρ) := rfl
def parOut (i j : Nat) (ρ : Env) (ds : List D) (s1 : Sto) : Out Fl := match ds with
  | [a, b] => .ok (.nx ((ρ.set i (some a)).set j (some b))) s1
  | _ => .bad
@[simp] theorem e_parOut : parOut n k ρ [d, e] st = .ok (.nx ((ρ.set n (some d)).set k (some e))) st := rfl
@[simp] theorem e_sPar : sPar n k fs ρ st = (fs ρ st).bind (parOut n k ρ) := rfl
@[simp] def kRet (d : D) (s1 : Sto) : Out Fl := .ok (.rt d) s1
@[simp] theorem e_sRet : sRet f ρ st = (f ρ st).bind kRet := rfl
@[simp] def kDrop (ρ : Env) (d : D) (s1 : Sto) : Out Fl := .ok (.nx ρ) s1
@[simp] theorem e_sDrop : sDrop f ρ st = (f ρ st).bind (kDrop ρ) := rfl
@[simp] theorem e_sNext : sNext ρ st = .ok (.nx ρ) st := rfl
@[simp] theorem e_sBreak : sBreak ρ st = .ok (.bk ρ) st := rfl
@[simp] theorem e_sCont : sCont ρ st = .ok (.ct ρ) st := rfl
def thenS (g : G Fl) (r : Fl) (s1 : Sto) : Out Fl := match r with
  | .nx ρ' => g ρ' s1
  | r => .ok r s1
@[simp] theorem e_thn : thenS r (.nx ρ) st = r ρ st := rfl
@[simp] theorem e_thr : thenS r (.rt d) st = .ok (.rt d) st := rfl
@[simp] theorem e_thb : thenS r (.bk ρ) st = .ok (.bk ρ) st := rfl
@[simp] theorem e_thc : thenS r (.ct ρ) st = .ok (.ct ρ) st := rfl
theorem sSeq_ap : sSeq r r' ρ st = (r ρ st).bind (thenS r') := by
  unfold sSeq
  congr 1
@[simp] theorem e_sSeq : sSeq r r' ρ st = (r ρ st).bind (thenS r') := sSeq_ap
@[simp] def kSIf (r r' : G Fl) (ρ : Env) (k : Bool) (s1 : Sto) : Out Fl := if k then r ρ s1 else r' ρ s1
@[simp] theorem e_sIf : sIf t r r' ρ st = (t ρ st).bind (kSIf r r' ρ) := rfl
def putOut (o i v : D) (ρ : Env) (st : Sto) : Out Fl := match mPut o i v st with
  | some s4 => .ok (.nx ρ) s4
  | none => .bad
@[simp] def kPut3 (ρ : Env) (v o i : D) (s3 : Sto) : Out Fl := putOut o i v ρ s3
@[simp] def kPut2 (fi : G D) (ρ : Env) (v o : D) (s2 : Sto) : Out Fl := (fi ρ s2).bind (kPut3 ρ v o)
@[simp] def kPut (fo fi : G D) (ρ : Env) (v : D) (s1 : Sto) : Out Fl := (fo ρ s1).bind (kPut2 fi ρ v)
@[simp] theorem e_sPut {fo fi fv : G D} : sPut fo fi fv ρ st = (fv ρ st).bind (kPut fo fi ρ) := rfl
theorem put_at (h : st[n]? = some (.lst l)) (hk : ixN l.length i = some k) : putOut (.ref n) (.int i) v ρ st = .ok (.nx ρ) (st.set n (.lst (l.set k v))) := by
  unfold putOut mPut
  simp only [h, hk, Option.map_some]
@[simp] theorem e_endr : endD (.rt d) st = .ok d st := rfl
@[simp] theorem e_endn : endD (.nx ρ) st = .ok .non st := rfl
@[simp] theorem e_Fun {ds : List D} {gg : G Fl} : gFun n gg ds st = (gg (ds.map some ++ List.replicate (n - ds.length) none) st).bind endD := rfl
@[simp] def kFor (pt : Pat) (r : G Fl) (ρ : Env) (items : List D) (s1 : Sto) : Out Fl := forGo pt r items ρ s1
@[simp] theorem e_sFor {fi : G (List D)} {pt : Pat} : sFor fi pt r ρ st = (fi ρ st).bind (kFor pt r ρ) := rfl
/-! operators -/
@[simp] theorem o_addi : mAdd (.int i) (.int j) st = some (.int (i + j)) := rfl
@[simp] theorem o_addt : mAdd (.tup a) (.tup b) st = if a.length + b.length ≤ LIM then some (.tup (a ++ b)) else none := rfl
@[simp] theorem o_addl : mAdd (.lst a) (.lst b) st = if a.length + b.length ≤ LIM then some (.lst (a ++ b)) else none := rfl
@[simp] theorem o_adds : mAdd (.str x) (.str y) st = if x.length + y.length ≤ LIM then some (.str (x ++ y)) else none := rfl
@[simp] theorem o_sub : mSub (.int i) (.int j) st = some (.int (i - j)) := rfl
@[simp] theorem o_mul : mMul (.int i) (.int j) st = if -(2 ^ 64) < j ∧ j < 2 ^ 64 then some (.int (i * j)) else none := rfl
@[simp] theorem o_mod : mMod (.int i) (.int j) st = if 0 < j then some (.int (i % j)) else none := rfl
@[simp] theorem o_fdiv : mFdiv (.int i) (.int j) st = if 0 < j ∧ j < 1073741824 then some (.int (i / j)) else none := rfl
@[simp] theorem o_pow : mPow (.int i) (.int j) st = if 0 ≤ j ∧ j ≤ 1000000 ∧ i.natAbs < 2 ^ 64 then some (.int (i ^ j.toNat)) else none := rfl
@[simp] theorem o_neg : mNeg (.int i) st = some (.int (-i)) := rfl
@[simp] theorem o_lt : mLt (.int i) (.int j) st = some (.bl (decide (i < j))) := rfl
@[simp] theorem o_le : mLe (.int i) (.int j) st = some (.bl (decide (i ≤ j))) := rfl
@[simp] theorem o_gt : mGt (.int i) (.int j) st = some (.bl (decide (j < i))) := rfl
@[simp] theorem o_ge : mGe (.int i) (.int j) st = some (.bl (decide (j ≤ i))) := rfl
@[simp] theorem o_ixt : mIx (.tup l) (.int i) st = atI l i := rfl
@[simp] theorem o_ixl : mIx (.lst l) (.int i) st = atI l i := rfl
@[simp] theorem o_ixr : mIx (.ro l) (.int i) st = atI l i := rfl
@[simp] theorem o_ixn {r : List SO} : mIx (.ref 0) (.int i) (.lst l :: r) = atI l i := rfl
@[simp] theorem o_int : mInt [.int i] st = some (.int i) := rfl
@[simp] theorem o_intb : mInt [.bl p] st = some (.int (if p then 1 else 0)) := rfl
@[simp] theorem o_lent : mLen [.tup l] st = some (.int l.length) := rfl
@[simp] theorem o_lenl : mLen [.lst l] st = some (.int l.length) := rfl
@[simp] theorem o_lenr : mLen [.ro l] st = some (.int l.length) := rfl
@[simp] theorem o_tupt : mTuple [.tup l] st = some (.tup l) := rfl
@[simp] theorem o_tupl : mTuple [.lst l] st = some (.tup l) := rfl
@[simp] theorem o_lstt : mList [.tup l] st = some (.lst l) := rfl
@[simp] theorem o_lstl : mList [.lst l] st = some (.lst l) := rfl
@[simp] theorem o_min : mMin2 [.int i, .int j] st = some (.int (if j < i then j else i)) := rfl
@[simp] theorem o_trb : mTru (.bl p) st = some p := rfl
@[simp] theorem o_tri : mTru (.int i) st = some (i != 0) := rfl
@[simp] theorem o_trn : mTru .non st = some false := rfl
@[simp] theorem o_trt : mTru (.tup l) st = some (!l.isEmpty) := rfl
@[simp] theorem o_trl : mTru (.lst l) st = some (!l.isEmpty) := rfl
@[simp] theorem o_sqt : mSeq (.tup l) st = some l := rfl
@[simp] theorem o_sql : mSeq (.lst l) st = some l := rfl
@[simp] theorem o_sqr : mSeq (.ro l) st = some l := rfl
@[simp] theorem o_rg1 : mRange1 [.int i] = if i ≤ 1000000 ∧ -1000000 ≤ i then some (intsD 0 i.toNat) else none := rfl
@[simp] theorem o_rg2 : mRange2 [.int i, .int j] = if (-1000000 ≤ i ∧ i ≤ 1000000) ∧ (-1000000 ≤ j ∧ j ≤ 1000000) then some (intsD i (j - i).toNat) else none := rfl
@[simp] theorem o_zip : mZip [.tup a, .tup b] = some (zipD a b) := rfl
@[simp] theorem o_zc : zipD (d :: a) (e :: b) = .tup [d, e] :: zipD a b := rfl
@[simp] theorem o_z0 : zipD [] b = [] := by cases b <;> rfl
@[simp] theorem o_z1 : zipD a [] = [] := by cases a <;> rfl
@[simp] theorem o_isi {s : String} : mIsi [d, .raw (.ty s)] st = match tyD d st with | some a => (isiB a s).map D.bl | none => none := rfl
@[simp] theorem o_isiT : mIsiT [d, .tup l] st = match tyD d st with | some a => (isiAny a l).map D.bl | none => none := rfl
@[simp] theorem o_isb : mIs (.bl p) (.bl q) st = some (.bl (decide (p = q))) := rfl
@[simp] theorem o_inb : mIsNot (.bl p) (.bl q) st = some (.bl (!decide (p = q))) := rfl
@[simp] theorem y_non : tyD .non st = some "NoneType" := rfl
@[simp] theorem y_bl : tyD (.bl p) st = some "bool" := rfl
@[simp] theorem y_int : tyD (.int i) st = some "int" := rfl
@[simp] theorem y_str : tyD (.str x) st = some "str" := rfl
@[simp] theorem y_tup : tyD (.tup l) st = some "tuple" := rfl
@[simp] theorem y_lst : tyD (.lst l) st = some "list" := rfl
@[simp] theorem y_ro : tyD (.ro l) st = some "list" := rfl
/-! comprehensions, loops -/
@[simp] theorem k_nil {pt : Pat} : compGo ρ pt t f [] st = .ok [] st := rfl
@[simp] theorem x_ok {α : Type} {z : α} : (Out.ok z st).nox = .ok z st := rfl
@[simp] def kCo3 (y : D) (ys : List D) (s3 : Sto) : Out (List D) := .ok (y :: ys) s3
@[simp] def kCo2 (ρ : Env) (p : Pat) (t : G Bool) (f : G D) (ds : List D) (y : D) (s2 : Sto) : Out (List D) := (compGo ρ p t f ds s2).bind (kCo3 y)
@[simp] def kCo (ρ : Env) (pt : Pat) (t : G Bool) (f : G D) (ds : List D) (ρ1 : Env) (b : Bool) (s1 : Sto) : Out (List D) := if b then (f ρ1 s1).nox.bind (kCo2 ρ pt t f ds) else compGo ρ pt t f ds s1
theorem k_nm {ds : List D} : compGo ρ (.nm n) t f (d :: ds) st = (t (ρ.set n (some d)) st).nox.bind (kCo ρ (.nm n) t f ds (ρ.set n (some d))) := by
  simp only [compGo, Pat.set]
  rfl
@[simp] theorem w_nil : wipeE ρ [] = ρ := rfl
@[simp] theorem w_cons {vs : List Nat} : wipeE ρ (n :: vs) = (wipeE ρ vs).set n none := rfl
end
theorem atI_cons0 {α : Type} {x : α} {l : List α} : atI (x :: l) 0 = some x := by simp [atI, ixN]
theorem atI_nat' {α : Type} {l : List α} {i : Int} {x : α} (h0 : 0 ≤ i) (h : l[i.toNat]? = some x) : atI l i = some x := by
  have e : i = ((i.toNat : Nat) : Int) := by omega
  rw [e]
  exact atI_nat h

@[simp] theorem atI_lit {α : Type} {l : List α} {n : Nat} : atI l (no_index (@OfNat.ofNat Int n _)) = l[n]? := by
  show atI l ((n : Nat) : Int) = l[n]?
  cases e : l[n]? with
  | some v => exact atI_nat e
  | none =>
    have hl : l.length ≤ n := List.getElem?_eq_none_iff.mp e
    unfold atI ixN
    rw [if_pos (Int.natCast_nonneg n), if_neg (by omega)]
    rfl
@[simp] theorem put_ref {l : List D} {r : List SO} {n : Nat} {v : D} {ρ : Env} (h : n < l.length) : putOut (.ref 0) (.int (no_index (@OfNat.ofNat Int n _))) v ρ (.lst l :: r) = .ok (.nx ρ) (.lst (l.set n v) :: r) := by
  have hk : ixN l.length ((n : Nat) : Int) = some n := by
    unfold ixN
    rw [if_pos (Int.natCast_nonneg n), if_pos (by omega)]
    rfl
  exact put_at (st := .lst l :: r) (n := 0) (k := n) rfl hk

/-! == and in of flat data -/
theorem char_lt (c : Char) : c.toNat < 1114112 := by
  have h := c.valid
  unfold UInt32.isValidChar Nat.isValidChar at h
  show c.val.toNat < _
  omega
theorem char_inj {a b : Char} (h : a.toNat = b.toNat) : a = b := Char.ext (UInt32.toNat_inj.mp h)
theorem chars_inj : ∀ {a b : List Char}, a.map Char.toNat = b.map Char.toNat → a = b
  | [], [], _ => rfl
  | [], _ :: _, h => by simp at h
  | _ :: _, [], h => by simp at h
  | x :: a, y :: b, h => by
    simp only [List.map_cons, List.cons.injEq] at h
    rw [char_inj h.1, chars_inj h.2]
theorem strOk_of (s : String) : PyData.strOk (Str.ofString s) = true := by
  rw [Str.ofString_eq_toList]
  unfold PyData.strOk
  rw [Array.all_eq_true']
  intro n hn
  simp only [List.mem_toArray, List.mem_map] at hn
  obtain ⟨c, _, rfl⟩ := hn
  exact decide_eq_true (char_lt c)
theorem ofString_inj {a b : String} (h : Str.ofString a = Str.ofString b) : a = b := by
  rw [Str.ofString_eq_toList, Str.ofString_eq_toList] at h
  have h1 : a.toList.map Char.toNat = b.toList.map Char.toNat := by
    have := congrArg Str.cps h
    simpa using this
  exact String.toList_inj.mp (chars_inj h1)
@[simp] theorem beq_lit (a b : String) : (Str.ofString a == Str.ofString b) = (a == b) := by
  by_cases h : a = b
  · subst h
    simp
  · rw [beq_false_of_ne h, beq_false_of_ne fun e => h (ofString_inj e)]
theorem okStr {x : Str} (h : PyData.strOk x = true) : okD (.str x) = true := by
  show (PyData.canLay0 (D.str x).py && decide ((D.str x).py.depth ≤ 64)) = true
  simp only [D.py, PyData.canLay0, PyData.depth, h]
  rfl
@[simp] theorem ok_lit (s : String) : okD (.str (Str.ofString s)) = true := okStr (strOk_of s)
@[simp] theorem ok_int {i : Int} : okD (.int i) = true := rfl
@[simp] theorem ok_bl {b : Bool} : okD (.bl b) = true := rfl
@[simp] theorem ok_non : okD .non = true := rfl
@[simp] theorem o_eq {d e : D} {st : Sto} : mEq d e st = if okD d && okD e then some (.bl (eqD d e)) else none := rfl
@[simp] theorem o_ne {d e : D} {st : Sto} : mNe d e st = if okD d && okD e then some (.bl (!eqD d e)) else none := rfl
@[simp] theorem q_int {i j : Int} : eqD (.int i) (.int j) = (i == j) := by simp [eqD, D.py, PyData.eqv]
@[simp] theorem q_str {x y : Str} : eqD (.str x) (.str y) = (x == y) := by simp [eqD, D.py, PyData.eqv]
@[simp] theorem q_bl {x y : Bool} : eqD (.bl x) (.bl y) = (x == y) := by simp [eqD, D.py, PyData.eqv]
end DL

set_option Elab.async false
set_option linter.all false
set_option maxRecDepth 100000
set_option maxHeartbeats 2000000
/-! # == and in of tuples and lists of data; rows for simp -/
namespace DL
open PySem PySem.Spec L2
open PyProof.Rows hiding St
/-- data that can be compared, not deeper than n -/
def okB (n : Nat) (d : D) : Bool := d.py.canLay0 && decide (d.py.depth ≤ n)
theorem okD_64 (d : D) : okD d = okB 64 d := rfl
theorem pys_ok : ∀ (l : List D) (n : Nat), (PyData.canLayAll0 (D.pys l) && decide (PyData.depthAll (D.pys l) ≤ n)) = l.all (okB n)
  | [], n => by simp [D.pys, PyData.canLayAll0, PyData.depthAll]
  | d :: l, n => by
    rw [List.all_cons, ← pys_ok l n]
    simp only [D.pys, PyData.canLayAll0, PyData.depthAll, okB]
    rw [show decide (max d.py.depth (PyData.depthAll (D.pys l)) ≤ n) = (decide (d.py.depth ≤ n) && decide (PyData.depthAll (D.pys l) ≤ n)) by
      rw [← Bool.decide_and]; exact decide_eq_decide.mpr Nat.max_le]
    cases d.py.canLay0 <;> cases PyData.canLayAll0 (D.pys l) <;> simp
section
variable {n : Nat} {l a b : List D} {x y : Str} {i j : Int} {p q : Bool} {d e : D}
theorem okB_seq (h : (D.py d) = .tuple (D.pys l) ∨ (D.py d) = .list (D.pys l)) : okB (n + 1) d = l.all (okB n) := by
  rw [← pys_ok l n]
  unfold okB
  rcases h with h | h <;> rw [h] <;> simp only [PyData.canLay0, PyData.depth] <;> congr 1 <;> exact decide_eq_decide.mpr (by omega)
@[simp] theorem okB_tup : okB (n + 1) (.tup l) = l.all (okB n) := okB_seq (.inl (by simp [D.py]))
@[simp] theorem okB_lst : okB (n + 1) (.lst l) = l.all (okB n) := okB_seq (.inr (by simp [D.py]))
@[simp] theorem okB_ro : okB (n + 1) (.ro l) = l.all (okB n) := okB_seq (.inr (by simp [D.py]))
@[simp] theorem okB_non : okB n .non = true := by simp [okB, D.py, PyData.canLay0, PyData.depth]
@[simp] theorem okB_bl : okB n (.bl p) = true := by simp [okB, D.py, PyData.canLay0, PyData.depth]
@[simp] theorem okB_int : okB n (.int i) = true := by simp [okB, D.py, PyData.canLay0, PyData.depth]
@[simp] theorem okB_str : okB n (.str x) = PyData.strOk x := by simp [okB, D.py, PyData.canLay0, PyData.depth]
@[simp] theorem ok_tup : okD (.tup l) = l.all (okB 63) := okB_tup (n := 63)
@[simp] theorem ok_lst : okD (.lst l) = l.all (okB 63) := okB_lst (n := 63)
@[simp] theorem ok_ro : okD (.ro l) = l.all (okB 63) := okB_ro (n := 63)
@[simp] theorem strOk_lit (s : String) : PyData.strOk (Str.ofString s) = true := strOk_of s
theorem okB_strs {ss : List Str} (h : ∀ s ∈ ss, PyData.strOk s = true) : (ss.map D.str).all (okB n) = true := by
  rw [List.all_map, List.all_eq_true]
  intro s hs
  simp [h s hs]
/-- == of two rows -/
def eqDs : List D → List D → Bool
  | [], [] => true
  | d :: a, e :: b => eqD d e && eqDs a b
  | _, _ => false
theorem eqvAll_pys : ∀ a b : List D, PyData.eqvAll (D.pys a) (D.pys b) = eqDs a b
  | [], [] => by simp [D.pys, PyData.eqvAll, eqDs]
  | [], _ :: _ => by simp [D.pys, PyData.eqvAll, eqDs]
  | _ :: _, [] => by simp [D.pys, PyData.eqvAll, eqDs]
  | d :: a, e :: b => by simp only [D.pys, PyData.eqvAll, eqDs, eqvAll_pys a b, eqD]
@[simp] theorem q_tup : eqD (.tup a) (.tup b) = eqDs a b := by simp only [eqD, D.py, PyData.eqv, eqvAll_pys]
@[simp] theorem q_lst : eqD (.lst a) (.lst b) = eqDs a b := by simp only [eqD, D.py, PyData.eqv, eqvAll_pys]
@[simp] theorem q_rol : eqD (.ro a) (.lst b) = eqDs a b := by simp only [eqD, D.py, PyData.eqv, eqvAll_pys]
@[simp] theorem q_lro : eqD (.lst a) (.ro b) = eqDs a b := by simp only [eqD, D.py, PyData.eqv, eqvAll_pys]
@[simp] theorem qs_nil : eqDs [] [] = true := rfl
@[simp] theorem qs_nc : eqDs [] (d :: b) = false := rfl
@[simp] theorem qs_cn : eqDs (d :: a) [] = false := rfl
@[simp] theorem qs_cons : eqDs (d :: a) (e :: b) = (eqD d e && eqDs a b) := rfl
theorem beqS (x y : Str) : (x == y) = decide (x = y) := by
  by_cases h : x = y
  · subst h; simp
  · rw [decide_eq_false h, beq_false_of_ne h]
theorem qs_strs : ∀ ss tt : List Str, eqDs (ss.map D.str) (tt.map D.str) = decide (ss = tt)
  | [], [] => by simp
  | [], _ :: _ => by simp
  | _ :: _, [] => by simp
  | s :: ss, t :: tt => by
    simp only [List.map_cons, qs_cons, q_str, qs_strs ss tt, List.cons.injEq, Bool.decide_and, beqS]
@[simp] theorem q_ns : eqD .non (.str x) = false := by simp [eqD, D.py, PyData.eqv]
@[simp] theorem q_sn : eqD (.str x) .non = false := by simp [eqD, D.py, PyData.eqv]
@[simp] theorem q_is : eqD (.int i) (.str x) = false := by simp [eqD, D.py, PyData.eqv]
@[simp] theorem q_si : eqD (.str x) (.int i) = false := by simp [eqD, D.py, PyData.eqv]
@[simp] theorem q_nn : eqD .non .non = true := by simp [eqD, D.py, PyData.eqv]
@[simp] theorem q_ni : eqD .non (.int i) = false := by simp [eqD, D.py, PyData.eqv]
@[simp] theorem q_in : eqD (.int i) .non = false := by simp [eqD, D.py, PyData.eqv]
@[simp] theorem q_bi : eqD (.bl p) (.int i) = ((if p then 1 else 0) == i) := by simp [eqD, D.py, PyData.eqv]
@[simp] theorem q_ib : eqD (.int i) (.bl p) = (i == (if p then 1 else 0)) := by simp [eqD, D.py, PyData.eqv]
@[simp] theorem q_ts : eqD (.tup a) (.str x) = false := by simp [eqD, D.py, PyData.eqv]
@[simp] theorem q_st : eqD (.str x) (.tup a) = false := by simp [eqD, D.py, PyData.eqv]
variable {st : Sto}
theorem in_tup : mIn p d (.tup l) st = if okD d && okD (.tup l) then some (.bl (if p then !l.any fun z => eqD z d else l.any fun z => eqD z d)) else none := by cases d <;> rfl
theorem in_lst : mIn p d (.lst l) st = if okD d && okD (.lst l) then some (.bl (if p then !l.any fun z => eqD z d else l.any fun z => eqD z d)) else none := by cases d <;> rfl
theorem in_ro : mIn p d (.ro l) st = if okD d && okD (.ro l) then some (.bl (if p then !l.any fun z => eqD z d else l.any fun z => eqD z d)) else none := by cases d <;> rfl
theorem any_strs {x : Str} : ∀ ss : List Str, ((ss.map D.str).any fun z => eqD z (.str x)) = decide (x ∈ ss)
  | [] => by simp
  | s :: ss => by
    rw [List.map_cons, List.any_cons, any_strs ss, q_str]
    simp only [List.mem_cons, Bool.decide_or, beqS]
    congr 1
    exact decide_eq_decide.mpr ⟨Eq.symm, Eq.symm⟩
@[simp] theorem i_non : mIs .non .non st = some (.bl true) := rfl
@[simp] theorem i_tn : mIs (.tup l) .non st = some (.bl false) := rfl
@[simp] theorem i_ln : mIs (.lst l) .non st = some (.bl false) := rfl
@[simp] theorem i_sn : mIs (.str x) .non st = some (.bl false) := rfl
@[simp] theorem i_in : mIs (.int i) .non st = some (.bl false) := rfl
@[simp] theorem i_bn : mIs (.bl p) .non st = some (.bl false) := rfl
@[simp] theorem i_rn : mIs (.ref n) .non st = some (.bl false) := rfl
end
section
variable {ρ : Env} {t : G Bool} {f : G D} {d e g : D} {ds : List D} {st : Sto} {n m k : Nat}
theorem k_t2 : compGo ρ (.tp [.nm n, .nm m]) t f (.tup [d, e] :: ds) st = (t ((ρ.set n (some d)).set m (some e)) st).nox.bind (kCo ρ (.tp [.nm n, .nm m]) t f ds ((ρ.set n (some d)).set m (some e))) := by
  simp only [compGo, Pat.set, Pats.set, List.length_cons, List.length_nil, if_true]
  rfl
theorem k_t3 : compGo ρ (.tp [.nm n, .nm m, .nm k]) t f (.tup [d, e, g] :: ds) st = (t (((ρ.set n (some d)).set m (some e)).set k (some g)) st).nox.bind (kCo ρ (.tp [.nm n, .nm m, .nm k]) t f ds (((ρ.set n (some d)).set m (some e)).set k (some g))) := by
  simp only [compGo, Pat.set, Pats.set, List.length_cons, List.length_nil, if_true]
  rfl
end
@[simp] theorem c_1n {d : D} {l : List D} {st : Sto} : mSl (.tup (d :: l)) (some 1) none st = some (.tup l) := by
  show some (D.tup _) = _
  congr 2
  unfold cutD
  rw [show HT.sIx (d :: l).length 0 (some 1) = 1 from by rw [show (1 : Int) = ((1 : Nat) : Int) from rfl, HT.sIx_nat]; simp, HT.sIx_none]
  simp
@[simp] theorem o_all {l : List D} {st : Sto} : mAll [.lst l] st = (bls l).map fun bs => .bl (bs.all id) := rfl
@[simp] theorem b_nil : bls [] = some [] := rfl
@[simp] theorem b_cons {b : Bool} {l : List D} : bls (.bl b :: l) = (bls l).map (b :: ·) := rfl
end DL

set_option Elab.async false
set_option linter.all false
set_option maxRecDepth 100000
set_option maxHeartbeats 2000000
/-! # A law's end: the script, what the text has written -/
namespace DL
open PySem PySem.Spec L2
open PyProof.Rows hiding St
def spL (P : Program) (K : PySem.W.Frag) (w : World) (m : List D → Sto → Out D) : Sp := fun vs H Q _ => ∀ base : Heap, ∃ β ds st, Reps ⟨P, K, w, base⟩ β H vs ds ∧ StoOk ⟨P, K, w, base⟩ β H st ∧ vs.length = 1 ∧ (m ds st).sat (PostV ⟨P, K, w, base⟩ Q β H) (fun _ _ => False)
section
variable {P : Program} {w : World} {K : PySem.W.Frag} {mg : Str → Option Value} {base : Heap} {m : List D → Sto → Out D}
theorem FnD.law {k : Nat} {f : Addr} {fd : FuncData} {x : Str} (F : FnD P w K mg base k f fd [x] m) : FnOk P w K mg base (L2.CX P w) k f fd [x] (spL P K w m) := FnOk.imp F fun _ _ _ _ h => by
  obtain ⟨β, ds, st, r, S, hl, q⟩ := h base
  exact ⟨β, ds, st, r, S, hl, q.mono (fun _ _ z => z) fun _ _ z => z.elim⟩
theorem reps_ints {K : Zx} {β : Bx} {H : Hp} : ∀ ns : List Int, Reps K β H (ns.map V.int) (ns.map D.int)
  | [] => .nil
  | n :: ns => .cons (.int n) (reps_ints ns)
theorem spL_of (e : ∀ ns : List Int, ∃ st, m [.ro (ns.map D.int)] [] = .ok (.bl true) st) {H : Hp} {a : Addr} {ns : List Int} (hl : ns.length ≤ 63) (O : Only H) (S : SqL K H a (ns.map V.int)) : spL P K w m [.ref a] H (fun v _ => v = .bl true) fun _ _ _ => False := by
  obtain ⟨st, h⟩ := e ns
  intro base
  have SR : SqR ⟨P, K, w, base⟩ H a (ns.map V.int) := by
    rcases S with (h1 | h1) | h1
    · rcases O a with h2 | ⟨o, xs, h2⟩ <;> rw [h1] at h2 <;> cases h2
    · exact .inl h1
    · exact .inr h1
  refine ⟨⟨[], []⟩, [.ro (ns.map D.int)], [], .cons (.ro SR (reps_ints ns) (by rw [List.length_map]; exact Nat.le_trans hl (by decide))) .nil, ⟨rfl, List.nodup_nil, fun n a o h1 => by simp at h1, fun p hp => by cases hp⟩, rfl, ?_⟩
  rw [h]
  intro v β' H' _ _ r
  cases r
  rfl
theorem cx_no {H : Hp} {s : Shared} {e : Value} {s' : Shared} (h : L2.CX P w [] H s (fun _ _ _ => False) e s') : False := by
  obtain ⟨_, _, _, _, _, _, _, _, _, _, _, _, z⟩ := h
  exact z
/-- a table as it is written: its entries, what each is -/
inductive TabAt (K : PySem.W.Frag) : List DictEntry → List (Str × D) → Prop
  | nil : TabAt K [] []
  | cons {h : Int} {x : Str} {t : Tok} {u : Value} {v : V} {d : D} {es : List DictEntry} {tab : List (Str × D)} (r : RelV v u) (q : ∀ (Z : Zx) β H, Z.K = K → Rep Z β H v d) (z : TabAt K es tab) : TabAt K (⟨h, .str x t, u⟩ :: es) ((x, d) :: tab)
theorem tab_none : ∀ {es : List DictEntry} {tab : List (Str × D)}, TabAt K es tab → es.any (·.refKey) = false
  | _, _, .nil => rfl
  | _, _, .cons _ _ z => by
    rw [List.any_cons, tab_none z]
    rfl
theorem tab_find (z : Str) : ∀ {es : List DictEntry} {tab : List (Str × D)}, TabAt K es tab → match tab.lookup z with
    | some x => ∃ e v, es.find? (·.key.isStr z) = some e ∧ RelV v e.val ∧ ∀ (Z : Zx) β H, Z.K = K → Rep Z β H v x
    | none => es.find? (·.key.isStr z) = none
  | _, _, .nil => rfl
  | _, _, .cons (x := x) (t := t) (u := u) (v := v) (h := h) r q y => by
    rw [List.lookup_cons, List.find?_cons]
    by_cases e : x = z
    · subst e
      rw [beq_self_eq_true]
      have : (Value.str x t).isStr x = true := by
        show (x == x) = true
        exact beq_self_eq_true x
      simp only [this]
      exact ⟨_, v, rfl, r, q⟩
    · have e1 : (z == x) = false := beq_false_of_ne (Ne.symm e)
      have e2 : (Value.str x t).isStr z = false := by
        show (x == z) = false
        exact beq_false_of_ne e
      simp only [e1, e2]
      exact tab_find z y
theorem ktab_of {d : Addr} {c : Value} {dd : Option Addr} {es : Array DictEntry} {n : Nat} {sl : Array (Option Value)} {tab : List (Str × D)} (l : K.lookup d = some ⟨c, dd, .dict es n, sl⟩) (h : TabAt K es.toList tab) : ∀ Z : Zx, Z.K = K → KTab Z d tab := by
  intro Z hZ z
  have f := tab_find z h
  unfold PySem.W.nsIn
  rw [hZ, l]
  cases q : tab.lookup z with
  | some x =>
    rw [q] at f
    obtain ⟨e, v, h1, h2, h3⟩ := f
    simp only [h1]
    exact ⟨_, rfl, _, v, rfl, h2, fun β H => h3 Z β H hZ⟩
  | none =>
    rw [q] at f
    simp only [show es.toList.find? (·.key.isStr z) = none from f, tab_none h]
    exact ⟨none, rfl, rfl⟩
/-- a tuple that the text has written -/
theorem rep_ktup {a : Addr} {dd : Option Addr} {its : Array Value} {n : Nat} {sl : Array (Option Value)} {xs : List V} {ds : List D} (l : K.lookup a = some ⟨.type "tuple", dd, .seq its n, sl⟩) (r : Vals xs its.toList) (q : ∀ (Z : Zx) β H, Z.K = K → Reps Z β H xs ds) (hl : ds.length ≤ 1000) (Z : Zx) (β : Bx) (H : Hp) (hZ : Z.K = K) : Rep Z β H (.ref a) (.tup ds) := by
  have e1 : its.size = ds.length := by
    rw [← (q Z β H hZ).length, r.length]
    simp
  exact .tup (.inr ⟨_, its, n, by rw [hZ]; exact l, rfl, rfl, by rw [e1]; exact Nat.le_trans hl (by decide), r⟩) (q Z β H hZ) (Nat.le_trans hl (by decide))
end
end DL

set_option Elab.async false
set_option linter.all false
set_option maxRecDepth 100000
set_option maxHeartbeats 2000000
/-! # Errors of one's own, a lambda handed to a def that tells what it raises -/
namespace DL
open PySem PySem.Spec L2
open PyProof.Rows hiding St
open LamX hiding takes0
/-! ### raise -/
def sRaise (c : Str) : G Fl := fun _ st => .exn ⟨c, none⟩ st
/-- an error's class of the text, over ValueError, without an __init__ of its own; B: the one that is caught -/
structure XC (K : PySem.W.Frag) (mg : Str → Option Value) (n : Str) (B : Addr) (a : Addr) : Prop where
  g : mg n = some (.ref a)
  ex : PySem.W.excIn K a [.type "ValueError", .type "Exception", .type "BaseException", .type "object"] "ValueError.__new__" = true
  kp : PySem.W.keepIn K (.ref a) = true
  b : PySem.W.subIn K (.ref a) (.type "BaseException") = some true
  t : PySem.W.typeIn K (.ref a) = some (.type "type")
  is : ExcC K a
  up : PySem.W.exmOne K (.ref a) (.ref B) = some true
section
variable {X : Cx} {W : WX} {B a : Addr}
theorem ds_raise {x m : Str} {j : Nat} {p p2 pos pos' : Pos} (hc : X.calm = true) (tk : Takes X W) (C : XC X.K X.mg x B a) (hg : Gl X x) (hdb : (x == ("__debug__" : Str)) = false := by decide) : DS X W (.Raise (some (.Call (.Name x p) [.Constant (.str m) j p2] [] pos)) none pos') (sRaise x) := by
  refine PSmono (ps_raise hc tk (pmk_own PySem.F.excBase_ValueError C.ex C.g C.kp (raises_own C.b C.t) hg hdb)) fun D' σ H h => ?_
  obtain ⟨β, ρ, st, hρ, hs, h⟩ := h
  exact h (.ref a) none σ β H (Ext.refl β H) hs ⟨C.g, rfl⟩
end
/-! ### what the clause gives back, by the error's class -/
def SE (Y : Cx) (i : Nat) (a : Addr) (e : Expr) (v : V) : Prop := PE Y e (fun σ H Q => σ[i]? = some (some (.ref a)) ∧ Q v H)
section
variable {Y : Cx} {i : Nat} {a D : Addr} {t u w : Expr} {v v' : V} {pos p p1 p2 : Pos} {b : Bool}
theorem se_str {x : Str} {j : Nat} : SE Y i a (.Constant (.str x) j pos) (.str x) := PEmono pe_str fun _ _ _ h => h.2
theorem se_is {e C : Str} {c : Addr} (hc : CallR Y (.builtin "isinstance") (rIsE Y.K D a)) (hN : Y.N[i]? = some e) (hv : Vis Y.env.scope e) (hg : Gl Y "isinstance") (hm : Y.mg "isinstance" = none) (hC : Gl Y C) (gC : Y.mg C = some (.ref c)) (hk : PySem.W.kitOne Y.K (.ref D) (.ref c) = some b)
    (hd : (e == ("__debug__" : Str)) = false := by decide) (hd2 : (e == ("__classdict__" : Str)) = false := by decide) (hd3 : (C == ("__debug__" : Str)) = false := by decide) :
    SE Y i a (.Call (.Name "isinstance" p) [.Name e p1, .Name C p2] [] pos) (.bl b) :=
  PEmono (pe_callB hc hg hm (by decide +kernel) (pa_cons (pe_var (i := i) hN hv hd hd2) (pa_cons (pe_glob hC gC (v := .ref c) rfl hd3) pa_nil))) fun σ H Q h =>
    ⟨.ref a, h.1, .ref c, .ref c, b, rfl, fun u r => r, hk, h.2⟩
theorem se_if (ht : SE Y i a t (.bl b)) (hu : b = true → SE Y i a u v) (hw : b = false → SE Y i a w v) (he : ∀ whole, isTrue t Y.env whole = (do let v ← whole; standAt t.pos; holding [v] (truthy v)) := by exact fun _ => rfl) : SE Y i a (.IfExp t u w pos) v := by
  refine ⟨fun pins s σ H Q I h => ?_⟩
  refine wpAny_IfExp (thn ((pt_truth ht he).run pins s σ H (fun k H' => k = b ∧ H' = H) I ⟨h.1, b, rfl, rfl, rfl⟩) fun d s1 ⟨H1, I1, q1⟩ => ?_)
  obtain ⟨rfl, rfl⟩ := q1
  cases d with
  | true => exact (hu rfl).run pins s1 σ _ Q I1 h
  | false => exact (hw rfl).run pins s1 σ _ Q I1 h
end
/-! ### try: work() except B as e: return .. / return .. -/
/-- what it makes of the lambda's reading: R: what an error's class is told as -/
def TTw (K : PySem.W.Frag) (CS : Addr) (R : Addr → V → Prop) (z : V) : (XK → Hp → VK → Prop) → Hp → VK → Prop := fun tl H Q =>
  tl (fun cls d H' => ∃ D v, cls = .ref D ∧ d = none ∧ R D v ∧ PySem.W.exmOne K cls (.ref CS) = some true ∧ Q v H') H fun _ H' => Q z H'
section
variable {X : Cx}
theorem wrong_gives {Ng : List Str} {x a e n q : Str} {sg : Scope} {g CS : Addr} {cdg : Value} {p1 p2 p3 p4 p6 p7 p8 p10 : Pos} {ret out : Expr} {z : V} {R : Addr → V → Prop}
    (hge : sg.names.lookup e = some .globalImplicit) (hme : X.mg e = some (.ref CS)) (hde : (e == ("__debug__" : Str)) = false) (h0 : ∀ f : Addr, (L2.start Ng [V.ref f])[0]? = some (some (V.ref f)))
    (hN : Ng.Nodup) (hi : Ng[1]? = some n) (hln : ∀ (A : Around) (s : Shared) (H : Hp), (cxOf C8.CX0 X.prog X.w X.K X.mg X.base Ng x sg g cdg A X.stack s H C8.E0).nox.env.kindOf n = some .local)
    (hout : ∀ (Y : Cx), PE Y out (tC z))
    (hret : ∀ (A : Around) (s : Shared) (H : Hp) (b D : Addr) (oe : Obj) (pn : List (Addr × Obj)) (v : V), Zc (.ref D) none oe → (∃ vs, oe.data = .fields vs) → R D v →
      SE ((cxOf C8.CX0 X.prog X.w X.K X.mg X.base Ng x sg g cdg A X.stack s H C8.E0).nox.suite b ((b, oe) :: pn)) 1 b ret v)
    (hsw : ∀ (env : PySem.Env), swapsWith (.Call (.Name a p1) [] [] p2) none p3.line env = pure false := by intro _; rfl) :
    GivesTo X Ng x sg g cdg [.Try [.Expr (.Call (.Name a p1) [] [] p2) p3] [.ExceptHandler (some (.Name e p4)) (some n) [.Return (some ret) p6] p7] [] [] p8, .Return (some out) p10] a q (TTw X.K CS R z) := by
  intro f c' s H Q tl act hc h
  have hgl : Gl (cxOf C8.CX0 X.prog X.w X.K X.mg X.base Ng x sg g cdg X.A X.stack s H C8.E0).nox e := hge
  let ts : Addr → Value → Option Addr → TS := fun b cls d D' σ H => ∃ D v, cls = .ref D ∧ d = none ∧ R D v ∧ (∃ σ' : L2.St, σ = List.set σ' 1 (some (.ref b))) ∧ D'.rt v H
  refine ⟨_, pss_cons (ps_try_as (X := (cxOf C8.CX0 X.prog X.w X.K X.mg X.base Ng x sg g cdg X.A X.stack s H C8.E0).nox) (c := .ref CS) (i := 1) (ts := ts)
      (tb := fun W D σ H => ∃ Ech : XK, (∀ cls d σ' H', Ech cls d H' → W cls d σ' H') ∧ σ[0]? = some (some (.ref f)) ∧ H c' = some (CodeO c' q) ∧ tl Ech H (fun _ H' => D.nx σ H'))
      rfl rfl hN hi (hln X.A s H) ⟨hgl, hde, .inl hme⟩ takes0 (fun W pn xe tk _ => ?_) (fun b oe cls d pn hz hd => ?_)) (pss_one (ps_ret (hout _))), ?_⟩
  · refine ⟨fun pins s' σ H' D I h' => ?_⟩
    obtain ⟨Ech, hW, h1, h2, h3⟩ := h'
    have hp := act W pn xe Ech p1 p2 tk hW
    have hq := pss_one (ps_expr (pos := p3) hp (hsw _))
    exact hq.run pins s' σ H' D I ⟨h1, h2, h3⟩
  · refine ⟨fun pins s' σ H' D' I h' => ?_⟩
    obtain ⟨D, v, rfl, rfl, hR, ⟨σ', hσ⟩, q⟩ := h'
    have hl : σ.length = Ng.length := I.len
    have h1 : σ[1]? = some (some (.ref b)) := by
      rw [hσ, List.length_set] at hl
      rw [hσ, List.getElem?_set_self (by rw [hl]; exact (List.getElem?_eq_some_iff.mp hi).1)]
    exact (pss_one (ps_ret (hret X.A s H b D oe pn v hz hd hR))).run pins s' σ H' D' I ⟨h1, q⟩
  · refine ⟨fun cls d H' => ∃ D v, cls = .ref D ∧ d = none ∧ R D v ∧ PySem.W.exmOne X.K cls (.ref CS) = some true ∧ Q v H', fun cls d σ' H' ⟨D, v, e1, e2, e3, e4, e5⟩ => ⟨true, e4, fun _ b _ => ⟨D, v, e1, e2, e3, ⟨σ', rfl⟩, e5⟩, fun hb => by cases hb⟩, h0 f, hc, h⟩
end
theorem ext_lam {β : Bx} {H H1 : Hp} (e : ExtN H H1) : Ext β H β H1 :=
  ⟨⟨[], by simp, by simp⟩, rfl, fun b o _ h n => e b o h n, fun b xs h => e b _ h (fun _ z => by cases z), fun b o u h => e b _ h (fun _ z => by cases z), fun b o h n => ⟨o, e b o h n, n⟩, fun c q h => e c _ h fun ps => codeO_ne ps⟩
/-- the tables of a store -/
def tabsOf (K : Zx) (st : Sto) : List (Addr × Str) := st.filterMap fun o => match o with
  | .tab d q => some (tabAddr K d, q)
  | _ => none
theorem tabsOf_mem {K : Zx} {st : Sto} {n : Nat} {d q : Str} (h : st[n]? = Option.some (SO.tab d q)) : ((tabAddr K d : Addr), q) ∈ tabsOf K st := List.mem_filterMap.mpr ⟨.tab d q, List.mem_iff_getElem?.mpr ⟨n, h⟩, rfl⟩
theorem tabsOf_inv {K : Zx} {st : Sto} {p : Addr × Str} (h : p ∈ tabsOf K st) : ∃ (n : Nat) (d q : Str), st[n]? = Option.some (SO.tab d q) ∧ p = (tabAddr K d, q) := by
  obtain ⟨o, ho, e⟩ := List.mem_filterMap.mp h
  obtain ⟨n, hn⟩ := List.mem_iff_getElem?.mp ho
  cases o <;> simp at e
  exact ⟨n, _, _, hn, e.symm⟩
theorem StoOk.tabAt {K : Zx} {β : Bx} {H : Hp} {st : Sto} (S : StoOk K β H st) {n : Nat} {d q : Str} (h : st[n]? = Option.some (SO.tab d q)) : ∃ a, β.lo[n]? = Option.some a ∧ a = tabAddr K d ∧ TabS H a q := by
  have hl : n < β.lo.length := by
    rw [S.len]
    exact (List.getElem?_eq_some_iff.mp h).1
  have ha : β.lo[n]? = Option.some β.lo[n] := List.getElem?_eq_getElem hl
  obtain ⟨h1, h2⟩ := S.obj n _ _ ha h
  exact ⟨_, ha, h1, h2⟩
theorem StoOk.tabs {K : Zx} {β : Bx} {H : Hp} {st : Sto} (S : StoOk K β H st) : Tabs (tabsOf K st) H := fun p hp => by
  obtain ⟨n, d, q, h, rfl⟩ := tabsOf_inv hp
  obtain ⟨a, _, e, t⟩ := S.tabAt h
  rw [e] at t
  exact t
theorem StoOk.tabU {K : Zx} {β : Bx} {H : Hp} {st : Sto} (S : StoOk K β H st) {n : Nat} {d q : Str} (h : st[n]? = Option.some (SO.tab d q)) : ∀ p ∈ tabsOf K st, p.1 = tabAddr K d → p.2 = q := fun p hp e => by
  obtain ⟨n', d', q', h', rfl⟩ := tabsOf_inv hp
  obtain ⟨a, ha, e1, _⟩ := S.tabAt h
  obtain ⟨a', ha', e2, _⟩ := S.tabAt h'
  have ee : a' = a := e2.trans ((show tabAddr K d' = tabAddr K d from e).trans e1.symm)
  subst ee
  obtain ⟨z1, e3⟩ := List.getElem?_eq_some_iff.mp ha
  obtain ⟨z2, e4⟩ := List.getElem?_eq_some_iff.mp ha'
  have hn : n = n' := (List.getElem_inj S.nd).mp (e3.trans e4.symm)
  subst hn
  rw [h] at h'
  cases h'
  rfl
theorem StoOk.lam {K : Zx} {β : Bx} {H H1 : Hp} {st : Sto} (S : StoOk K β H st) (e : ExtN H H1) (t : Tabs (tabsOf K st) H1) : StoOk K β H1 st := by
  have ex := ext_lam (β := β) e
  refine ⟨S.len, S.nd, fun n a o h1 h2 => ?_, fun p hp => let ⟨u, hu, n⟩ := S.priv p hp; ⟨u, e _ _ hu n, n⟩⟩
  have r := S.obj n a o h1 h2
  cases o with
  | lst ds => obtain ⟨xs, h, r⟩ := r; exact ⟨xs, e _ _ h fun _ z => (by cases z), Reps.ext ex _ _ r⟩
  | dK kvs => obtain ⟨vs, h, l, k, r⟩ := r; exact ⟨vs, e _ _ h fun _ z => (by cases z), l, k, Reps.ext ex _ _ r⟩
  | dN kvs => obtain ⟨es, h, l, k, r1, r2⟩ := r; exact ⟨es, e _ _ h fun _ z => (by unfold dictN at z; cases z), l, k, Reps.ext ex _ _ r1, Reps.ext ex _ _ r2⟩
  | ins c fs => obtain ⟨C, dx, vs, hc, h, l, r⟩ := r; exact ⟨C, dx, vs, hc, e _ _ h fun _ z => (by cases z), l, Reps.ext ex _ _ r⟩
  | lock => obtain ⟨o, u, h⟩ := r; exact ⟨o, u, e _ _ h fun _ z => (by cases z)⟩
  | tab d' q' =>
    refine ⟨r.1, ?_⟩
    rw [r.1]
    exact t _ (tabsOf_mem h2)
/-- work handed to the def that tells what it raises; tw: the errors' words, dz: if nothing is raised -/
def gWrong (q : Str) (tw : List (Str × D)) (dz : D) (gb : G D) : G D := fun ρ (st : Sto) => match st[0]? with
  | some (SO.tab d' q') => if d' = "law" ∧ q' = q then (match gb ρ st with
    | .ok _ s1 => .ok dz s1
    | .exn x s1 => (match x.fld, tw.lookup x.cls with
      | none, some d => .ok d s1
      | _, _ => .bad)
    | .bad => .bad) else .bad
  | _ => .bad
/-- the name of a lambda of the law's -/
def lawQ : Str := ("law" : Str) ++ (".<locals>." : Str)
def lamQ : Str := lawQ ++ ("<lambda>" : Str)
section
variable {X : Cx} {W : WX}
theorem de_wrong {x a : Str} {stg : Stmt} {g : Addr} {fdg : FuncData} {Ng : List Str} {CS : Addr} {R : Addr → V → Prop} {z : V} {c P : Addr} {k : Nat} {params : Arguments} {body : Expr} {scope : Scope} {p lpos pos : Pos} {tw : List (Str × D)} {dz : D} {gb : G D}
    (F : Fun X.K x x stg g fdg) (hb : L2.Binds X.K fdg [a] []) (Sg : FnScope Ng [a] (defScope stg)) (hNg : Ng[0]? = some a) (hva : Vis (defScope stg) a) (hg : Gl X x) (hm : X.mg x = some (.ref g))
    (hG : ∀ cdv, GivesTo X Ng x (defScope stg) g cdv (defBody stg) a (X.env.qual ++ "<lambda>") (TTw X.K CS R z))
    (TB : TabB X.base X.mg c P) (hcode : X.env.code = .ref c) (hP : tabAddr X.K "law" = P) (hr : Room (k + 2) X.A) (L : LamS X.env.scope scope) (hdef : defaultsOf params X.env = ([], []))
    (hbind : ∀ (q : Str) (cl : List (Str × Addr)) (pm cv ctv : Value), bindArgs (PySem.W.kla_fn "<lambda>" q params body scope cl pm cv ctv) ⟨[], []⟩ = pure [])
    (ht : ∀ n d, tw.lookup n = some d → ∃ D v, X.mg n = some (.ref D) ∧ (∀ (Z : Zx) β H, Rep Z β H v d) ∧ R D v ∧ PySem.W.exmOne X.K (.ref D) (.ref CS) = some true) (hz : ∀ (Z : Zx) β H, Rep Z β H z dz)
    (hq : X.env.qual = lawQ)
    (hbody : ∀ (A : Around) (outer : List PySem.Env) (s : Shared) (H : Hp) (E : XK) (f c' : Addr), Room k (A.deeper (lamEnv X scope s.heap.objs.size f c')) → DE (lamCx X A outer s H E scope f c') (WE' E) body gb)
    (hdb : (x == ("__debug__" : Str)) = false := by decide) (hd : (a == ("__debug__" : Str)) = false := by decide) (hcd : (a == ("__classdict__" : Str)) = false := by decide) :
    DE X W (.Call (.Name x p) [.Lambda params body scope lpos] [] pos) (gWrong lamQ tw dz gb) := by
  have eq : X.env.qual ++ ("<lambda>" : Str) = lamQ := by
    rw [hq]
    rfl
  rw [eq] at hG
  obtain ⟨oc, od, kV, doc, pm, an, cdv, ct, osl, rfl, lk, hcg⟩ := F.ex
  refine ⟨fun pins s0 σ H Q I h => ?_⟩
  obtain ⟨β, ρ, st, hρ, hs, h⟩ := h
  unfold gWrong at h
  split at h
  · rename_i d' q' h0
    split at h
    · rename_i hq
      obtain ⟨hd', hq⟩ := hq
      subst hd'
      subst hq
      have hmem : ((P : Addr), lamQ) ∈ tabsOf (zOf X) st := by
        rw [← hP]
        exact tabsOf_mem h0
      have huq : ∀ p ∈ tabsOf (zOf X) st, p.1 = P → p.2 = lamQ := by
        rw [← hP]
        exact hs.tabU h0
      refine (pe_lamcall (T := tabsOf (zOf X) st) (t := fun E => tD (zOf X) X.mg (WE' E) gb) hg hm F.kp lk hcg hb Sg hNg hva (by rw [eq]; exact hG cdv) TB hcode (by rw [eq]; exact hmem) (fun p hp z => by rw [eq]; exact huq p hp z) hr L hdef hbind (fun A outer s H E f c' h => hbody A outer s H E f c' h) hdb hd hcd).run pins s0 σ H Q I ?_
      refine ⟨hs.tabs, fun H1 eN T1 => ?_⟩
      have ex := ext_lam (β := β) eN
      refine ⟨β, ρ, st, hρ.ext ex, hs.lam eN T1, ?_⟩
      cases e : gb ρ st with
      | bad => rw [e] at h; exact h.elim
      | ok d s1 =>
        rw [e] at h
        exact fun v β' H' e' S' r' => h z β' H' (ex.trans e') S' (hz _ _ _)
      | exn y s1 =>
        rw [e] at h
        refine fun cls dd β' H' e' S' xr => ?_
        have h : Out.sat (match y.fld, tw.lookup y.cls with
          | none, some d => Out.ok d s1
          | _, _ => Out.bad) (PostV (zOf X) Q β H) _ := h
        split at h
        · rename_i d hf hd'
          obtain ⟨D, v, g1, g2, g3, g4⟩ := ht _ _ hd'
          obtain ⟨m1, m2⟩ := xr
          rw [g1] at m1
          cases m1
          rw [hf] at m2
          exact ⟨D, v, rfl, m2, g3, g4, h v β' H' (ex.trans e') S' (g2 _ _ _)⟩
        · exact h.elim
    · exact h.elim
  · exact h.elim
end
end DL

set_option Elab.async false
set_option linter.all false
set_option maxRecDepth 100000
set_option maxHeartbeats 2000000
/-! # A written table that is looked up on the spot; a tuple many times over -/
namespace DL
open PySem PySem.Spec L2
open PyProof.Rows hiding St
open LamX hiding takes0
def gTabIx (tab : List (Str × Str)) (f : G D) : G D := fun ρ st => (f ρ st).bind fun d s1 => match d with
  | .str z => oout ((tab.lookup z).map D.str) s1
  | _ => .bad
def keyOfS (p : Str × Str) : Key × V := (.inr p.1, .str p.2)
theorem valV_tab (z : Str) : ∀ tab : List (Str × Str), valV (tab.map keyOfS) (.inr z : Key) = (tab.lookup z).map V.str
  | [] => rfl
  | (a, b) :: tab => by
    have ih := valV_tab z tab
    rw [List.map_cons, List.lookup_cons]
    by_cases e : a = z
    · subst e
      rw [valV_pos (p := keyOfS (a, b)) (k := (.inr a : Key)) rfl, beq_self_eq_true]
      rfl
    · rw [show (z == a) = false from beq_false_of_ne (Ne.symm e)]
      unfold valV at ih ⊢
      rw [List.find?_cons]
      rw [show decide ((keyOfS (a, b)).1 = (.inr z : Key)) = false from decide_eq_false fun q => e (Sum.inr.inj q)]
      exact ih
def tabExprs : List (Str × Str) → List (Nat × Pos × Nat × Pos) → List (Option Expr) × List Expr
  | (a, b) :: t, (i, p, j, q) :: r => let x := tabExprs t r; (some (.Constant (.str a) i p) :: x.1, .Constant (.str b) j q :: x.2)
  | _, _ => ([], [])
def tabTrs : List (Str × Str) → List (TE × TE)
  | [] => []
  | (a, b) :: t => (tC (.str a), tC (.str b)) :: tabTrs t
section
variable {X : Cx} {W : WX} {pos pos2 : Pos} {e : Expr} {f : G D} {k : Nat}
theorem pps_str {a b : Str} {i j : Nat} {p q : Pos} {ks : List (Option Expr)} {vs : List Expr} {t : List (Str × Str)} (h : PPs X pos ks vs (tabTrs t)) : PPs X pos (some (.Constant (.str a) i p) :: ks) (.Constant (.str b) j q :: vs) (tabTrs ((a, b) :: t)) := pps_cons pe_str pe_str h
theorem tabPairs : ∀ (t : List (Str × Str)) (σ : St) (H : Hp) (Q : List (V × V) → Hp → Prop), Q (t.map fun p => (V.str p.1, V.str p.2)) H → tPairs (tabTrs t) σ H Q
  | [], _, _, _, q => q
  | (a, b) :: t, σ, H, Q, q => tabPairs t σ H _ q
theorem de_tabIx {tab : List (Str × Str)} {ks : List (Option Expr)} {vs : List Expr} (hr : Room k X.A) (h : PPs X pos ks vs (tabTrs tab)) (hm : mergeK [] (tab.map keyOfS) = tab.map keyOfS) (h15 : tab.length ≤ 15) (he : DE X W e f)
    (hall : ks.all (·.isSome) = true := by rfl) (hl : ks.length = vs.length := by rfl) (h0 : ks ≠ [] := by exact fun z => by cases z) (hk15 : ks.length ≤ 15 := by decide) (hs : NoSl e := by exact fun _ _ => rfl) :
    DE X W (.Subscript (.Dict ks vs pos) e pos2) (gTabIx tab f) := by
  refine PEmono (pe_dget (hu_of hr) (pe_disp h hall hl h0 hk15) he hs) fun σ H Q h => ?_
  obtain ⟨β, ρ, st, hρ, hst, h⟩ := h
  intro p hp
  refine tabPairs tab σ _ _ ⟨upd_same, tab.map keyOfS, ?_, by rw [List.length_map]; exact h15, ?_⟩
  · rw [List.map_map]
    exact List.map_congr_left fun x _ => rfl
  rw [hm]
  have e0 : upd (upd H p (.dK [])) p (.dK (tab.map keyOfS)) = upd H p (.dK (tab.map keyOfS)) := by
    funext b
    by_cases hb : b = p
    · rw [hb, upd_same, upd_same]
    · rw [upd_ne hb, upd_ne hb, upd_ne hb]
  rw [e0]
  have ex : Ext β H β (upd H p (.dK (tab.map keyOfS))) := Ext.new hp
  refine tD_intro (hρ.ext ex) (hst.fresh hp) ((Out.sat_bind h).mono (fun d s1 q => q) fun _ _ q => q.ext ex) (fun d s1 h1 v β1 H1 e1 S1 r1 => ?_) fun _ _ q => q
  split at h1
  · rename_i z
    cases r1
    obtain ⟨d3, q, p3⟩ := oout_sat h1
    cases hz : tab.lookup z with
    | none => rw [hz] at q; cases q
    | some y =>
      rw [hz] at q
      cases q
      have hd : H1 p = some (.dK (tab.map keyOfS)) := e1.keep _ _ (hst.nmem hp).1 upd_same fun _ z => by cases z
      refine ⟨p, .str y, rfl, ?_, p3 (.str y) β1 H1 (ex.trans e1) S1 (.str y)⟩
      have := DGet.k (kvs := tab.map keyOfS) (k := (.inr z : Key)) hd
      rw [valV_tab, hz] at this
      exact this
  · exact h1.elim
end
/-! ### xs * k of a tuple -/
def mRep : D → D → Sto → Option D
  | .tup l, .int k, _ => if l ≠ [] ∧ 2 ≤ k ∧ k ≤ 1000 ∧ l.length ≤ 1000 then some (.tup (List.replicate k.toNat l).flatten) else none
  | _, _, _ => none
theorem Reps.rep {K : Zx} {β : Bx} {H : Hp} {xs : List V} {l : List D} (r : Reps K β H xs l) : ∀ n, Reps K β H (List.replicate n xs).flatten (List.replicate n l).flatten
  | 0 => .nil
  | n + 1 => by
    rw [List.replicate_succ, List.replicate_succ, List.flatten_cons, List.flatten_cons]
    exact r.append (Reps.rep r n)
theorem Reps.repLen {l : List D} : ∀ n, (List.replicate n l).flatten.length = n * l.length
  | 0 => by simp
  | n + 1 => by
    rw [List.replicate_succ, List.flatten_cons, List.length_append, Reps.repLen n, Nat.succ_mul]
    omega
theorem od_rep {K : Zx} : OpD K (rRepT K) mRep := by
  intro β H st x y dx dy d Q rx ry S e q
  cases dx <;> cases dy <;> simp only [mRep, reduceCtorEq] at e
  case tup.int l k =>
    split at e
    · rename_i hz
      obtain ⟨h0, h1, h2, h3⟩ := hz
      have e := Option.some.inj e
      subst e
      cases ry
      cases rx with
      | tup hT r hl =>
        refine ⟨_, k, _, rfl, rfl, hT, ?_, h1, h2, by rw [r.length]; exact h3, fun p hp => ?_⟩
        · intro z
          subst z
          cases r
          exact h0 rfl
        · refine q _ _ (same_new hp) (.tup (.inl (.inl upd_same)) ((Reps.ext (Ext.new hp) _ _ r).rep _) ?_)
          rw [Reps.repLen]
          have : k.toNat ≤ 1000 := by omega
          exact Nat.le_trans (Nat.mul_le_mul this h3) (by rw [sizeLine_eq]; decide)
    · cases e
/-! ### a def whose code object's table is known: lambdas are made in it -/
structure LawT (K : PySem.W.Frag) (mg : Str → Option Value) (base : Heap) (d : Str) (st : Stmt) (f : Addr) (fd : FuncData) where
  c : Addr
  ex : ∃ (oc : Value) (od : Option Addr) (kV doc pm : Value) (an : Option Addr) (ct : Value) (osl : Array (Option Value)),
    fd = PySem.W.fnOf d d (defArgs st) (defBody st) (defScope st) .none kV doc pm an (.ref c) ct ∧ K.lookup f = some ⟨oc, od, .func fd, osl⟩ ∧ PySem.W.codeIn K (.ref c) d = true
  tb : TabB base mg c (tabAddr K d)
section
variable {P : Program} {w : World} {K : PySem.W.Frag} {mg : Str → Option Value} {base : Heap}
theorem fnD_ofC {d : Str} {st : Stmt} {f : Addr} {fd : FuncData} {N ps : List Str} {k : Nat} {g : G Fl} (F : LawT K mg base d st f fd) (S : FnScope N ps (defScope st))
    (hb : ∀ (A : Around) (outer : List PySem.Env) (s : Shared) (H : Hp) (E : XK), Room k (A.deeper (envOfC d (defScope st) s.heap.objs.size f (.ref F.c))) →
      DSs (cxOf (L2.CX P w) P w K mg base N d (defScope st) f (.ref F.c) A outer s H E) (WE' E) (defBody st) g) : FnD P w K mg base (k + 1) f fd ps (gFun N.length g) := by
  obtain ⟨c, ⟨oc, od, kV, doc, pm, an, ct, osl, rfl, lk, hcd⟩, tb⟩ := F
  refine fn_of lk hcd S (fun vs H Q E h => ?_) (fun A outer s H vs Q E hr h => ?_)
  · obtain ⟨β, ds, st, r, S, hl, h⟩ := h
    exact hl
  · obtain ⟨β, ds, st, r, S, hl, h⟩ := h
    refine ⟨_, hb A outer s H E hr, β, _, st, start_env r, S, (Out.sat_bind h).mono (fun r s1 q => ?_) fun _ _ q => fun c d σ β' H' e S r => q c d β' H' e S r⟩
    cases r with
    | nx ρ => exact fun σ β' H' e S r => q .non β' H' e S .non
    | rt d => exact q
    | bk ρ => exact q.elim
    | ct ρ => exact q.elim
end
/-! ### the law's end with the tables of the defs that make lambdas -/
section
variable {P : Program} {w : World} {K : PySem.W.Frag} {mg : Str → Option Value} {base : Heap} {m : List D → Sto → Out D}
theorem spL_ofT {tabs : List (Str × Str)} (nd : (tabs.map fun p => (tabAddr K p.1 : Addr)).Nodup) (e : ∀ (ns : List Int) (sc : D), sc = .ro (ns.map D.int) ∨ sc = .lst (ns.map D.int) → ∃ st, m [sc] (tabs.map fun p => SO.tab p.1 p.2) = .ok (.bl true) st) {H : Hp} {a : Addr} {ns : List Int} (hl : ns.length ≤ 63) (hT : ∀ p ∈ tabs, H (tabAddr K p.1) = some (.tbl #[])) (S : SqL K H a (ns.map V.int)) : spL P K w m [.ref a] H (fun v _ => v = .bl true) fun _ _ _ => False := by
  intro base
  have hz : (ns.map D.int).length ≤ sizeLine := by
    rw [List.length_map]
    exact Nat.le_trans hl (by decide)
  obtain ⟨sc, hsc, r⟩ : ∃ sc, (sc = .ro (ns.map D.int) ∨ sc = .lst (ns.map D.int)) ∧ Rep ⟨P, K, w, base⟩ ⟨tabs.map fun p => (tabAddr K p.1 : Addr), []⟩ H (.ref a) sc := by
    rcases S with (h1 | h1) | h1
    · refine ⟨_, .inr rfl, .lst h1 ⟨fun z => ?_, fun z => by cases z⟩ (reps_ints ns) hz⟩
      obtain ⟨p, hp, ep⟩ := List.mem_map.mp z
      rw [← ep, hT p hp] at h1
      cases h1
    · exact ⟨_, .inl rfl, .ro (.inl h1) (reps_ints ns) hz⟩
    · exact ⟨_, .inl rfl, .ro (.inr h1) (reps_ints ns) hz⟩
  obtain ⟨st, h⟩ := e ns sc hsc
  refine ⟨⟨tabs.map fun p => (tabAddr K p.1 : Addr), []⟩, [sc], tabs.map fun p => SO.tab p.1 p.2, .cons r .nil, ⟨by simp, nd, fun n a o h1 h2 => ?_, fun p hp => by cases hp⟩, rfl, ?_⟩
  · rw [List.getElem?_map] at h1 h2
    cases q : tabs[n]? with
    | none => rw [q] at h1; cases h1
    | some p =>
      rw [q] at h1 h2
      cases h1
      cases h2
      exact ⟨rfl, TabS.nil (hT p (List.mem_of_getElem? q))⟩
  · rw [h]
    intro v β' H' _ _ r
    cases r
    rfl
end
end DL

set_option Elab.async false
set_option linter.all false
set_option maxRecDepth 100000
set_option maxHeartbeats 2000000
/-! # Texts, methods of texts, enumerate -/
namespace DL
open PySem PySem.Spec L2
open PyProof.Rows hiding St
/-! ### methods of texts -/
def MtD (K : Zx) (r : V → List V → Hp → VK → Prop) (m : D → List D → Sto → Option D) : Prop := ∀ (β : Bx) (H : Hp) (st : Sto) (x : V) (dx : D) (xs : List V) (ds : List D) (d : D) (Q : VK), Rep K β H x dx → Reps K β H xs ds → StoOk K β H st → m dx ds st = some d →
  (∀ v H', Same H H' → Rep K β H' v d → Q v H') → r x xs H Q
def isStr : D → Bool
  | .str _ => true
  | _ => false
theorem isStr_rep {K : Zx} {β : Bx} {H : Hp} {x : V} {d : D} (h : isStr d = true) (r : Rep K β H x d) : ∃ a, x = .str a := by
  cases d <;> simp [isStr] at h
  cases r
  exact ⟨_, rfl⟩
def gM0 (m : D → List D → Sto → Option D) (f : G D) : G D := fun ρ st => (f ρ st).bind fun d s1 => if isStr d = true then oout (m d [] s1) s1 else .bad
def gM1 (m : D → List D → Sto → Option D) (f g : G D) : G D := fun ρ st => (f ρ st).bind fun d s1 => if isStr d = true then (g ρ s1).bind fun e s2 => oout (m d [e] s2) s2 else .bad
section
variable {X : Cx} {W : WX} {o e : Expr} {f g : G D} {id : String} {name : Str} {apos pos : Pos} {r : V → List V → Hp → VK → Prop} {m : D → List D → Sto → Option D}
theorem de_m0 (slot : Slot "str" name id) (ty : typeOf (.builtin id) = pure (.type "method_descriptor")) (rule : MtR X id r) (hm : MtD (zOf X) r m) (ho : DE X W o f)
    (hbase : attributeBase o name X.env (eval o X.env) = eval o X.env := by rfl) (hline : (apos.endLine == pos.line) = true := by rfl) : DE X W (.Call (.Attribute o name apos) [] [] pos) (gM0 m f) := by
  refine PEmono (pe_m0 slot ty rule ho hbase hline) fun σ H Q h => ?_
  obtain ⟨β, ρ, st, hρ, hs, h⟩ := h
  refine tD_intro hρ hs (Out.sat_bind h) (fun d s1 h1 v β1 H1 e1 S1 r1 => ?_) fun _ _ q => q
  split at h1
  · rename_i hs'
    obtain ⟨d3, q, p⟩ := oout_sat h1
    exact ⟨isStr_rep hs' r1, hm β1 H1 s1 v d [] [] d3 Q r1 .nil S1 q fun w' H' s' r' => p w' β1 H' (e1.trans (Ext.same s')) (S1.same s') r'⟩
  · exact h1.elim
theorem de_m1 (slot : Slot "str" name id) (ty : typeOf (.builtin id) = pure (.type "method_descriptor")) (rule : MtR X id r) (hm : MtD (zOf X) r m) (ho : DE X W o f) (he : DE X W e g)
    (hs' : starEach [e] X.env = [(false, eval e X.env)] := by rfl) (hbase : attributeBase o name X.env (eval o X.env) = eval o X.env := by rfl) (hline : (apos.endLine == pos.line) = true := by rfl) : DE X W (.Call (.Attribute o name apos) [e] [] pos) (gM1 m f g) := by
  refine PEmono (pe_m1 slot ty rule ho he hs' hbase hline) fun σ H Q h => ?_
  obtain ⟨β, ρ, st, hρ, hs, h⟩ := h
  refine tD_intro hρ hs (Out.sat_bind h) (fun d s1 h1 v β1 H1 e1 S1 r1 => ?_) fun _ _ q => q
  split at h1
  · rename_i hs'
    refine ⟨isStr_rep hs' r1, ?_⟩
    refine tD_intro (hρ.ext e1) S1 (Out.sat_bind h1) (fun d2 s2 h2 v2 β2 H2 e2 S2 r2 => ?_) fun _ _ q => q.ext e1
    obtain ⟨d3, q, p⟩ := oout_sat h2
    exact hm β2 H2 s2 v d [v2] [d2] d3 Q (Rep.ext e2 _ _ r1) (.cons r2 .nil) S2 q fun w' H' s' r' => p w' β2 H' ((e1.trans e2).trans (Ext.same s')) (S2.same s') r'
  · exact h1.elim
end
theorem strsD_map (ys : List Str) : strsD (ys.map D.str) = some ys := by
  induction ys with
  | nil => rfl
  | cons y ys ih => simp only [List.map_cons, strsD, ih, Option.map_some]
def joinD (a : Str) (l : List D) : Option D := match strsD l with
  | some ys => if (ys.map (·.length)).sum + ys.length * a.length ≤ 1000000 then some (.str (Txt.join a ys)) else none
  | none => none
def mJoin : D → List D → Sto → Option D
  | .str a, [.lst l], _ => joinD a l
  | .str a, [.tup l], _ => joinD a l
  | .str a, [.ref n], st => match st[n]? with
    | some (.lst l) => joinD a l
    | _ => none
  | _, _, _ => none
theorem joinD_some {a : Str} {l : List D} {d : D} (h : joinD a l = some d) : ∃ ys, strsD l = some ys ∧ (ys.map (·.length)).sum + ys.length * a.length ≤ 16777216 ∧ d = .str (Txt.join a ys) := by
  unfold joinD at h
  split at h
  · rename_i ys q
    split at h
    · rename_i hz
      cases h
      exact ⟨ys, q, Nat.le_trans hz (by decide), rfl⟩
    · cases h
  · cases h
section
variable {K : Zx}
abbrev rJoin (K : PySem.W.Frag) : V → List V → Hp → VK → Prop := fun x xs H Q => ∃ a p, ∃ ys : List Str, x = .str a ∧ xs = [.ref p] ∧ (SqL K H p (ys.map V.str) ∨ SqT K H p (ys.map V.str)) ∧ (ys.map (·.length)).sum + ys.length * a.length ≤ 16777216 ∧ Q (.str (Txt.join a ys)) H
theorem md_join : MtD K (rJoin K) mJoin := by
  intro β H st x dx xs ds d Q rx rs S e q
  match dx, ds, rs, e with
  | .str a, [.lst l], rs, e =>
    obtain ⟨ys, h1, h2, rfl⟩ := joinD_some (by simpa only [mJoin] using e)
    obtain ⟨v, rfl, r1⟩ := rs.one
    cases rx
    cases r1 with
    | lst g1 g2 g3 g4 =>
      have e1 := strsD_reps g3 h1
      subst e1
      exact ⟨_, _, ys, rfl, rfl, .inl (SqL.of g1), h2, q _ _ (Same.refl H) (.str _)⟩
  | .str a, [.tup l], rs, e =>
    obtain ⟨ys, h1, h2, rfl⟩ := joinD_some (by simpa only [mJoin] using e)
    obtain ⟨v, rfl, r1⟩ := rs.one
    cases rx
    cases r1 with
    | tup g1 g3 g4 =>
      have e1 := strsD_reps g3 h1
      subst e1
      exact ⟨_, _, ys, rfl, rfl, .inr g1, h2, q _ _ (Same.refl H) (.str _)⟩
  | .str a, [.ref n], rs, e =>
    obtain ⟨v, rfl, r1⟩ := rs.one
    cases rx
    cases r1 with
    | ref hm =>
      obtain ⟨o, ho, rel⟩ := S.get hm
      simp only [mJoin, ho] at e
      cases o with
      | lst l =>
        obtain ⟨ys, h1, h2, rfl⟩ := joinD_some e
        obtain ⟨xs, g1, g3⟩ := rel
        have e1 := strsD_reps g3 h1
        subst e1
        exact ⟨_, _, ys, rfl, rfl, .inl (SqL.of g1), h2, q _ _ (Same.refl H) (.str _)⟩
      | dK l => cases e
      | tab _ _ => cases e
      | dN _ => cases e
      | ins _ _ => cases e
      | lock => cases e
def mSplit : D → List D → Sto → Option D
  | .str a, [.str b], _ => if b.length ≠ 0 ∧ a.length ≤ 1000000 then some (.lst ((Txt.split a b).map D.str)) else none
  | _, _, _ => none
abbrev rSplit : V → List V → Hp → VK → Prop := fun x xs H Q => ∃ a b, x = .str a ∧ xs = [.str b] ∧ (b.length == 0) = false ∧ a.length + 2 ≤ sizeLine ∧ rNewStrs (Txt.split a b) H Q
theorem md_split : MtD K rSplit mSplit := by
  intro β H st x dx xs ds d Q rx rs S e q
  match dx, ds, rs, e with
  | .str a, [.str b], rs, e =>
    simp only [mSplit] at e
    split at e
    · rename_i hz
      cases e
      obtain ⟨v, rfl, r1⟩ := rs.one
      cases rx
      cases r1
      refine ⟨a, b, rfl, rfl, by simpa using hz.1, by rw [sizeLine_eq]; omega, fun p np => ?_⟩
      have hl : ((Txt.split a b).map D.str).length ≤ sizeLine := by
        rw [List.length_map, sizeLine_eq]
        have := PyProof.Rows.split_le a b
        omega
      exact q _ _ (same_new np) (.lst upd_same (S.nmem np) (reps_strs _) hl)
    · cases e
def mT0 (c : Str → Bool) : D → List D → Sto → Option D
  | .str a, [], _ => some (.bl (c a))
  | _, _, _ => none
theorem md_t0 {c : Str → Bool} : MtD K (fun x xs H Q => ∃ a, x = .str a ∧ xs = [] ∧ True ∧ Q (.bl (c a)) H) (mT0 c) := by
  intro β H st x dx xs ds d Q rx rs S e q
  match dx, ds, rs, e with
  | .str a, [], rs, e =>
    cases e
    cases rx
    cases rs
    exact ⟨a, rfl, rfl, trivial, q _ _ (Same.refl H) (.bl _)⟩
def mT1 (c : Str → Str → Bool) : D → List D → Sto → Option D
  | .str a, [.str b], _ => some (.bl (c a b))
  | _, _, _ => none
theorem md_t1 {c : Str → Str → Bool} : MtD K (fun x xs H Q => ∃ a b, x = .str a ∧ xs = [.str b] ∧ Q (.bl (c a b)) H) (mT1 c) := by
  intro β H st x dx xs ds d Q rx rs S e q
  match dx, ds, rs, e with
  | .str a, [.str b], rs, e =>
    cases e
    obtain ⟨v, rfl, r1⟩ := rs.one
    cases rx
    cases r1
    exact ⟨a, b, rfl, rfl, q _ _ (Same.refl H) (.bl _)⟩
abbrev mIsdigit := mT0 Txt.isdigit
abbrev mIsascii := mT0 Txt.isascii
abbrev mStartswith := mT1 Txt.startswith
end
section
variable {X : Cx} {W : WX} {o e : Expr} {f g : G D} {apos pos : Pos}
theorem de_join (ho : DE X W o f) (he : DE X W e g) (hs : starEach [e] X.env = [(false, eval e X.env)] := by rfl) (hbase : attributeBase o "join" X.env (eval o X.env) = eval o X.env := by rfl) (hline : (apos.endLine == pos.line) = true := by rfl) :
    DE X W (.Call (.Attribute o "join" apos) [e] [] pos) (gM1 mJoin f g) := de_m1 PySem.F.slot_str_join PySem.F.type_str_join mt_join md_join ho he hs hbase hline
theorem de_split (ho : DE X W o f) (he : DE X W e g) (hs : starEach [e] X.env = [(false, eval e X.env)] := by rfl) (hbase : attributeBase o "split" X.env (eval o X.env) = eval o X.env := by rfl) (hline : (apos.endLine == pos.line) = true := by rfl) :
    DE X W (.Call (.Attribute o "split" apos) [e] [] pos) (gM1 mSplit f g) := de_m1 PySem.F.slot_str_split PySem.F.type_str_split mt_split md_split ho he hs hbase hline
theorem de_startswith (ho : DE X W o f) (he : DE X W e g) (hs : starEach [e] X.env = [(false, eval e X.env)] := by rfl) (hbase : attributeBase o "startswith" X.env (eval o X.env) = eval o X.env := by rfl) (hline : (apos.endLine == pos.line) = true := by rfl) :
    DE X W (.Call (.Attribute o "startswith" apos) [e] [] pos) (gM1 mStartswith f g) := de_m1 PySem.F.slot_str_startswith PySem.F.type_str_startswith mt_startswith md_t1 ho he hs hbase hline
theorem de_isdigit (ho : DE X W o f) (hbase : attributeBase o "isdigit" X.env (eval o X.env) = eval o X.env := by rfl) (hline : (apos.endLine == pos.line) = true := by rfl) :
    DE X W (.Call (.Attribute o "isdigit" apos) [] [] pos) (gM0 mIsdigit f) := de_m0 PySem.F.slot_str_isdigit PySem.F.type_str_isdigit mt_isdigit md_t0 ho hbase hline
theorem de_isascii (ho : DE X W o f) (hbase : attributeBase o "isascii" X.env (eval o X.env) = eval o X.env := by rfl) (hline : (apos.endLine == pos.line) = true := by rfl) :
    DE X W (.Call (.Attribute o "isascii" apos) [] [] pos) (gM0 mIsascii f) := de_m0 PySem.F.slot_str_isascii PySem.F.type_str_isascii mt_isascii md_t0 ho hbase hline
end
/-! ### str(x), int(text) -/
section
variable {K : Zx}
def mStr : List D → Sto → Option D
  | [.int i], _ => if i.natAbs.log2 < 1920 then some (.str (toString i)) else none
  | [.str a], _ => some (.str a)
  | _, _ => none
abbrev rStr : List V → Hp → VK → Prop := fun xs H Q => (∃ i, xs = [.int i] ∧ i.natAbs.log2 < 1920 ∧ Q (.str (toString i)) H) ∨ ∃ a, xs = [.str a] ∧ Q (.str a) H
theorem call_str {X : Cx} : CallR X (.type "str") rStr := call_str_int.or SkE.call_str_str
theorem cd_str : CallD K rStr mStr := by
  intro β H st xs ds d Q r S e q
  match ds, r, e with
  | [.int i], r, e =>
    simp only [mStr] at e
    split at e
    · rename_i hz
      obtain ⟨v, rfl, r1⟩ := r.one
      cases r1
      cases e
      exact .inl ⟨_, rfl, hz, q _ _ (Same.refl H) (.str _)⟩
    · cases e
  | [.str a], r, e => obtain ⟨v, rfl, r1⟩ := r.one; cases r1; cases e; exact .inr ⟨_, rfl, q _ _ (Same.refl H) (.str _)⟩
def mIntT : List D → Sto → Option D
  | [.str a], _ => if a.length ≤ 640 then (PySem.intText? a).map D.int else none
  | _, _ => none
theorem cd_intT : CallD K (fun xs H Q => ∃ a n, xs = [.str a] ∧ PySem.intText? a = some n ∧ a.length ≤ 640 ∧ Q (.int n) H) mIntT := by
  intro β H st xs ds d Q r S e q
  match ds, r, e with
  | [.str a], r, e =>
    simp only [mIntT] at e
    split at e
    · rename_i hz
      cases hn : PySem.intText? a with
      | none => rw [hn] at e; cases e
      | some n =>
        rw [hn] at e
        cases e
        obtain ⟨v, rfl, r1⟩ := r.one
        cases r1
        exact ⟨a, n, rfl, hn, hz, q _ _ (Same.refl H) (.int _)⟩
    · cases e
end
/-! ### enumerate -/
def SqS (K : PySem.W.Frag) (H : Hp) (a : Addr) (xs : List V) : Prop := SqL K H a xs ∨ SqT K H a xs
/-- the tuple at a, each item in a new pair -/
def IteT (K : PySem.W.Frag) (a : Addr) : It :=
  ⟨fun i H => ∃ (xs : List V) (x : V), SqT K H a xs ∧ xs[i]? = some x, fun i H v H' => ∃ T x, v = .ref T ∧ H T = none ∧ H' = upd H T (.tup [.int (i : Nat), x]) ∧ ∀ xs, SqT K H a xs → xs[i]? = some x, fun i H => ∃ xs : List V, SqT K H a xs ∧ xs.length ≤ i⟩
theorem meets_enumerate_newT (l : Addr) (items : Array Value) :
    Meets (Builtin.«enumerate.__new__» ⟨[.type "enumerate", .ref l], []⟩) (fun _ R s => s.heap.IsTuple l items ∧
      R (.ok (.ret (.ref (s.heap.push { cls := .type "tuple_iterator", data := .fields #[.ref l, .int 0 0] }).objs.size)))
        { s with heap := (s.heap.push { cls := .type "tuple_iterator", data := .fields #[.ref l, .int 0 0] }).push { cls := .type "enumerate", data := .fields #[.none, .bool false, .ref s.heap.objs.size, rawInt 0, .none, .none] } }) :=
  .of_wp fun prog w A R s h => by
    obtain ⟨hp, g, d, tk, os⟩ := s; obtain ⟨hT, h⟩ := h
    have hsub := sub_enumerate
    have q1 : ∀ {A' : Around} {E : Value → Shared → Prop} {Q : Value → Shared → Prop}, Q (.ref hp.objs.size) ⟨hp.push { cls := .type "tuple_iterator", data := .fields #[.ref l, .int 0 0] }, g, d, tk, os⟩ → wpAny (model prog w) A' (pyIter (.ref l)) Q E ⟨hp, g, d, tk, os⟩ :=
      fun q => (begins_tuple l items).iter prog w _ _ ⟨hp, g, d, tk, os⟩ _ hT q
    wp_walk using q1
    refine wpAny_stack_any fun st => wpAny_pure ?_
    split
    · rename_i c _ _ _ _ _
      cases (c == Value.type "enumerate")
      · wp_walk using q1
        exact ⟨_, rfl, h⟩
      · wp_walk using q1
        exact ⟨_, rfl, h⟩
    · wp_walk using q1
      exact ⟨_, rfl, h⟩
theorem call_enumerate_tuple {prog : Program} {w : World} {A : Around} {E : Value → Shared → Prop} {s : Shared} {l : Addr} {items : Array Value} {Q : Value → Shared → Prop} (hT : s.heap.IsTuple l items)
    (h : ∀ h', IsEnum h' (s.heap.objs.size + 1) s.heap.objs.size 0 .none → h'.IsTupleIter s.heap.objs.size l 0 → h'.objs.size = s.heap.objs.size + 2 →
      (∀ b o, s.heap.get? b = some o → h'.get? b = some o) → Q (.ref (s.heap.objs.size + 1)) { s with heap := h' }) :
    wpAny (model prog w) A (call (.type "enumerate") [.ref l]) Q E s := by
  refine callType_new PySem.F.called_enumerate (by decide) (PySem.F.typeCall_enumerate_1 _) (PySem.F.newCall_enumerate_1 _) (fun obj => PySem.F.args_object_init_2 obj _) PySem.F.entry_enumerate_new
    (meets_enumerate_newT l items) ⟨hT, ?_⟩
  have hz : (s.heap.push { cls := .type "tuple_iterator", data := .fields #[.ref l, .int 0 0] }).objs.size = s.heap.objs.size + 1 := Heap.size_push ..
  show _ ∧ _
  rw [hz]
  have he : IsEnum ((s.heap.push { cls := .type "tuple_iterator", data := .fields #[.ref l, .int 0 0] }).push
      { cls := .type "enumerate", data := .fields #[.none, .bool false, .ref s.heap.objs.size, rawInt 0, .none, .none] }) (s.heap.objs.size + 1) s.heap.objs.size 0 .none := by
    have := Heap.get?_push_size (s.heap.push { cls := .type "tuple_iterator", data := .fields #[.ref l, .int 0 0] })
      (o := { cls := .type "enumerate", data := .fields #[.none, .bool false, .ref s.heap.objs.size, rawInt 0, .none, .none] }) rfl
    rw [hz] at this; exact this
  refine ⟨⟨_, he, rfl⟩, h _ he ⟨_, Heap.get?_push_of_some _ (Heap.get?_push_size _ rfl), rfl, rfl⟩ (by rw [Heap.size_push, hz]) fun b o x => Heap.get?_push_of_some _ (Heap.get?_push_of_some _ x)⟩
theorem turn_enumT {P : Program} {w : World} {K : PySem.W.Frag} {elts : List Expr} {kk : Nat} {tpos : Pos} (a e it : Addr) (hai : a ≠ it) (hae : a ≠ e) :
    Turn P w K (.Tuple elts kk tpos) (IteT K a) [e, it] e (fun i h => (∃ old, IsEnum h e it ((i : Nat) : Int) old) ∧ h.IsTupleIter it a i ∧ e ≠ it) where
  mem := by simp
  obj := fun i h st b hb => by
    obtain ⟨⟨old, he⟩, ⟨o, ho, hc, hd⟩, _⟩ := st
    have e' : b = e ∨ b = it := by simpa using hb
    rcases e' with z | z
    · rw [z]; exact ⟨_, he, fun v q => nomatch q⟩
    · rw [z]; exact ⟨o, ho, fun v q => by rw [hd] at q; cases q⟩
  keep := fun i h h' st k => let ⟨⟨old, he⟩, hi, hne⟩ := st; ⟨⟨old, k e (by simp) _ he⟩, hi.at fun o q => k it (by simp) o q, hne⟩
  item := by
    intro X hP hw hK hc i pins s σ H E I hf st hg
    subst hP hw hK
    obtain ⟨⟨old, he⟩, hit, hne⟩ := st
    obtain ⟨xs, x, hq, hx⟩ := hg
    obtain ⟨its, rv, p, hz⟩ := I.tuple hq
    obtain ⟨u, hu, ru⟩ := rv.get hx
    have hel : e < s.heap.objs.size := Heap.lt_size he
    have hil : it < s.heap.objs.size := by obtain ⟨_, q, _⟩ := hit; exact Heap.lt_size q
    have hlt : i < its.toArray.size := by
      have := (List.getElem?_eq_some_iff.mp hu).1
      simpa using this
    have nd : e ∉ [it, a] := by
      intro z
      rcases List.mem_cons.mp z with z | z
      · exact hne z
      · exact hae (List.mem_singleton.mp z).symm
    refine wpAny_pyNext_enum_itemC (Draws.tuple (prog := X.prog) (w := X.w) (A := X.A.in1) (show X.A.handled = none from I.ok.hd hc) it a hai its.toArray) he ⟨hit, p⟩ hlt hne nd fun x' h' tk hP ho hit' hT hsz hk => ?_
    have hxu : x' = u := by
      have h1 : its.toArray[i]? = some x' := hP
      rw [List.getElem?_toArray, hu] at h1
      exact (Option.some.inj h1).symm
    subst hxu
    refine ⟨_, rfl, wpAny_letOwnedTupleGo_enum (s := { s with heap := h', toks := tk + 1 }) ho fun h'' he' sb => ?_⟩
    have hT2 : h''.get? s.heap.objs.size = some { cls := .type "tuple", data := .seq #[.int i tk, x'] } := (sb.2 _ (Nat.ne_of_gt hel)).trans hT
    have new : ObjOk X.prog X.w (upd H s.heap.objs.size (.tup [.int (i : Nat), x])) h'' s.heap.objs.size (.tup [.int (i : Nat), x]) :=
      ⟨by show 2 ≤ sizeLine; decide, [.int i tk, x'], .cons ⟨_, rfl⟩ (.cons ru .nil), ⟨_, hT2, rfl, _, rfl⟩⟩
    have I1 : Inv X pins σ (upd H s.heap.objs.size (.tup [.int (i : Nat), x])) { s with heap := h'', toks := tk + 1 } :=
      I.turnedNew (ch := [e, it]) (fun b ob hb q => (sb.2 b (fun z => hb (by simp [z]))).trans (hk b ob (fun z => hb (by simp [z])) (fun z => hb (by simp [z])) q)) hf (Nat.le_refl _) new
    refine ⟨.ref s.heap.objs.size, _, I1, rfl, ⟨_, x, rfl, I.hok.fresh (Nat.le_refl _), rfl, fun ys hy => by rw [I.tuple_inj hy hq]; exact hx⟩, ⟨⟨x', ?_⟩, hit'.1.at fun o q => (sb.2 it (Ne.symm hne)).trans q, hne⟩, fun b hb => ?_⟩
    · have e1 : ((i + 1 : Nat) : Int) = (i : Int) + 1 := by omega
      rw [e1]; exact he'
    · have hb' : b < s.heap.objs.size := by
        have e' : b = e ∨ b = it := by simpa using hb
        rcases e' with z | z
        · rw [z]; exact hel
        · rw [z]; exact hil
      rw [upd_ne (Nat.ne_of_lt hb')]
      exact (hf b hb).1
  done := by
    intro X hP hw hK hc i pins s σ H E I hf st hg
    subst hP hw hK
    obtain ⟨⟨old, he⟩, hit, hne⟩ := st
    obtain ⟨xs, hq, hx⟩ := hg
    obtain ⟨its, rv, p, hz⟩ := I.tuple hq
    obtain ⟨f0, f1, f2, f3, f4, f5⟩ := hf it (by simp)
    have hl := rv.length
    have D' : Draws X.prog X.w X.A.in1 it [it, a] i (fun _ _ => False) (fun j h => j = i ∧ h.IsTupleIter it a i ∧ h.IsTuple a its.toArray) :=
      { live := fun _ _ st => let ⟨o, ho, _⟩ := st.2.1; ⟨o, ho⟩
        frame := fun _ _ _ st hk => ⟨st.1, st.2.1.at fun o e => hk it (by simp) o e, st.2.2.at fun o e => hk a (by simp) o e⟩
        item := fun j s Q E hj st _ => absurd st.1 (Nat.ne_of_lt hj)
        done := fun s Q E st hE => wpAny_nextOf_tuple_end (show X.A.handled = none from I.ok.hd hc) st.2.1 st.2.2 (by simp; omega) hE }
    exact wpAny_pyNext_enum_endD D' he ⟨rfl, hit, p⟩ fun h' eb => ⟨rfl, I.turned (t' := s.toks) (fun b o hb q => eb b o hb q) f0 f1 f3 f4 f5⟩
  self := fun A i s Q E st h => let ⟨⟨_, he⟩, _⟩ := st; wpAny_pyIter_enum he h
def iEnumT (K : PySem.W.Frag) (ta : TA) : TI := fun σ H R => ta σ H fun vs H1 => ∃ a xs, vs = [.ref a] ∧ ((SqL K H1 a xs ∧ R (Ite K a) H1) ∨ (SqT K H1 a xs ∧ R (IteT K a) H1))
theorem pi_enumT {X : Cx} {e : Expr} {ta : TA} {p pos tpos : Pos} {elts : List Expr} {kk : Nat} (hg : Gl X "enumerate") (hm : X.mg "enumerate" = none) (ha : PA X [e] ta) (hs : starEach [e] X.env = [(false, eval e X.env)] := by rfl) :
    PI X (.Tuple elts kk tpos) (.Call (.Name "enumerate" p) [e] [] pos) (iEnumT X.K ta) := by
  refine ⟨fun pins s σ H R I h => ?_⟩
  refine Call_ (ld_blt I hg hm boot_enumerate (PyProof.Rows.callWith_type1 (thn (ha.run pos pins s σ H _ I h) fun us s1 ⟨vs, H1, I1, r1, q1⟩ => ?_) hs rfl))
  obtain ⟨a, xs, ex, q⟩ := q1
  subst ex
  cases r1 with
  | cons r rr =>
    cases rr
    cases r
    have fr : ∀ b, b ∈ [s1.heap.objs.size + 1, s1.heap.objs.size] → FpOk X pins H1 b := fun b hb => by
      have e' : b = s1.heap.objs.size + 1 ∨ b = s1.heap.objs.size := by simpa using hb
      have hle : s1.heap.objs.size ≤ b := by
        rcases e' with z | z
        · rw [z]; exact Nat.le_add_right _ _
        · rw [z]; exact Nat.le_refl _
      exact I1.fpOk hle (I1.hok.fresh hle)
    rcases q with ⟨hq, q⟩ | ⟨hq, q⟩
    · obtain ⟨its, rv, p', hz⟩ := I1.list hq
      refine call_enumerate_list p'.isList fun h' he hit hsz hk => wpAny_pyIter_enum he ?_
      exact ⟨s1.heap.objs.size + 1, [s1.heap.objs.size + 1, s1.heap.objs.size], _, _, H1, rfl, I1.kept (t' := s1.toks) hk, turn_enum a (s1.heap.objs.size + 1) s1.heap.objs.size, ⟨⟨.none, he⟩, hit, Nat.succ_ne_self _⟩, fr, q⟩
    · obtain ⟨its, rv, p', hz⟩ := I1.tuple hq
      have hal : a < s1.heap.objs.size := by obtain ⟨_, q, _⟩ := id p'; exact Heap.lt_size q
      refine call_enumerate_tuple (show s1.heap.IsTuple a its.toArray from p') fun h' he hit hsz hk => wpAny_pyIter_enum he ?_
      exact ⟨s1.heap.objs.size + 1, [s1.heap.objs.size + 1, s1.heap.objs.size], _, _, H1, rfl, I1.kept (t' := s1.toks) hk, turn_enumT a (s1.heap.objs.size + 1) s1.heap.objs.size (Nat.ne_of_lt hal) (Nat.ne_of_lt (Nat.lt_succ_of_lt hal)), ⟨⟨.none, he⟩, hit, Nat.succ_ne_self _⟩, fr, q⟩
def enumD : Nat → List D → List D
  | _, [] => []
  | n, d :: ds => .tup [.int (n : Int), d] :: enumD (n + 1) ds
theorem enumD_len : ∀ (l : List D) (n : Nat), (enumD n l).length = l.length
  | [], _ => rfl
  | _ :: ds, n => by simp only [enumD, List.length_cons, enumD_len ds (n + 1)]
theorem enumD_get : ∀ {l : List D} {n i : Nat} {d : D}, (enumD n l)[i]? = some d → ∃ x, d = .tup [.int ((n + i : Nat) : Int), x] ∧ l[i]? = some x
  | [], n, i, d, h => by simp [enumD] at h
  | x :: ds, n, 0, d, h => ⟨x, (Option.some.inj (by simpa [enumD] using h)).symm, rfl⟩
  | x :: ds, n, i + 1, d, h => by
    obtain ⟨y, e, q⟩ := enumD_get (l := ds) (n := n + 1) (i := i) (d := d) (by simpa [enumD] using h)
    exact ⟨y, by rw [e, show n + 1 + i = n + (i + 1) by omega], by simpa using q⟩
section
variable {K : Zx} {β : Bx} {H : Hp}
theorem itd_el {a : Addr} {xs : List V} {l : List D} (h : ∀ β' H', Mv β H β' H' → SqL K H' a xs) (r : Reps K β H xs l) : ItD K β H (Ite K a) (enumD 0 l) where
  go := fun β' H' i e hi => by
    rw [enumD_len] at hi
    exact ⟨xs, xs[i]'(by rw [r.length]; exact hi), h β' H' e, List.getElem?_eq_getElem _⟩
  yld := fun β' H' i x H'' d e hd hy => by
    obtain ⟨T, x1, rfl, nT, rfl, f1⟩ := hy
    obtain ⟨dx, rfl, g1⟩ := enumD_get hd
    obtain ⟨v, hv, rv⟩ := r.get g1
    have e1 := f1 xs (h β' H' e)
    rw [hv] at e1
    have e1 := Option.some.inj e1
    subst e1
    have e3 := e.trans (Ext.new (β := β') (o := .tup [.int (i : Int), v]) nT).mv
    rw [Nat.zero_add]
    exact ⟨same_new nT, .tup (.inl (.inl upd_same)) (.cons (.int _) (.cons (Rep.move e3 _ _ rv) .nil)) (le1000 (by simp))⟩
  stop := fun β' H' i e hi => by
    rw [enumD_len] at hi
    exact ⟨xs, h β' H' e, by rw [r.length]; exact hi⟩
theorem itd_et {a : Addr} {xs : List V} {l : List D} (h : SqT K H a xs) (r : Reps K β H xs l) : ItD K β H (IteT K a) (enumD 0 l) where
  go := fun β' H' i e hi => by
    rw [enumD_len] at hi
    exact ⟨xs, xs[i]'(by rw [r.length]; exact hi), e.sqT h, List.getElem?_eq_getElem _⟩
  yld := fun β' H' i x H'' d e hd hy => by
    obtain ⟨T, x1, rfl, nT, rfl, f1⟩ := hy
    obtain ⟨dx, rfl, g1⟩ := enumD_get hd
    obtain ⟨v, hv, rv⟩ := r.get g1
    have e1 := f1 xs (e.sqT h)
    rw [hv] at e1
    have e1 := Option.some.inj e1
    subst e1
    have e3 := e.trans (Ext.new (β := β') (o := .tup [.int (i : Int), v]) nT).mv
    rw [Nat.zero_add]
    exact ⟨same_new nT, .tup (.inl (.inl upd_same)) (.cons (.int _) (.cons (Rep.move e3 _ _ rv) .nil)) (le1000 (by simp))⟩
  stop := fun β' H' i e hi => by
    rw [enumD_len] at hi
    exact ⟨xs, e.sqT h, by rw [r.length]; exact hi⟩
end
def mEnum : List D → Option (List D)
  | [.tup l] => some (enumD 0 l)
  | [.lst l] => some (enumD 0 l)
  | [.ro l] => some (enumD 0 l)
  | _ => none
def gEnum (f : G (List D)) : G (List D) := fun ρ st => (f ρ st).bind fun d s1 => oout (mEnum d) s1
section
variable {X : Cx} {W : WX}
theorem di_enum {e : Expr} {fs : G (List D)} {elts : List Expr} {kk : Nat} {tpos p pos : Pos} (hg : Gl X "enumerate") (hm : X.mg "enumerate" = none) (ha : DA X W [e] fs) (hs : starEach [e] X.env = [(false, eval e X.env)] := by rfl) :
    DI X W (.Tuple elts kk tpos) (.Call (.Name "enumerate" p) [e] [] pos) (gEnum fs) := by
  refine PImono (pi_enumT hg hm ha hs) fun σ H R h => ?_
  obtain ⟨β, ρ, st, hρ, hs, h⟩ := h
  refine tDA_intro hρ hs (Out.sat_bind h) (fun d s1 h1 v β1 H1 e1 S1 r1 => ?_) fun _ _ q => q
  obtain ⟨l, q, p⟩ := oout_sat h1
  unfold mEnum at q
  split at q
  · rename_i l
    cases q
    obtain ⟨v, rfl, r⟩ := r1.one
    cases r with | tup g1 g2 g3 => exact ⟨_, _, rfl, .inr ⟨g1, p _ β1 H1 e1 S1 (itd_et g1 g2) (by rw [enumD_len]; exact g3)⟩⟩
  · rename_i l
    cases q
    obtain ⟨v, rfl, r⟩ := r1.one
    cases r with | lst g1 gn g2 g3 => exact ⟨_, _, rfl, .inl ⟨SqL.of g1, p _ β1 H1 e1 S1 (itd_el (fun β' H' e => SqL.of (e.lst _ _ g1 gn).1) g2) (by rw [enumD_len]; exact g3)⟩⟩
  · rename_i l
    cases q
    obtain ⟨v, rfl, r⟩ := r1.one
    cases r with | ro g1 g2 g3 => exact ⟨_, _, rfl, .inl ⟨g1.sqL, p _ β1 H1 e1 S1 (itd_el (fun β' H' e => (e.sqR g1).sqL) g2) (by rw [enumD_len]; exact g3)⟩⟩
  · cases q
end
end DL
namespace DL
open PySem PySem.Spec L2
open PyProof.Rows hiding St
def mIAdd : D → D → Sto → Option D
  | .int i, .int j, _ => some (.int (i + j))
  | _, _, _ => none
def mISub : D → D → Sto → Option D
  | .int i, .int j, _ => some (.int (i - j))
  | _, _, _ => none
theorem od_iadd {K : Zx} : OpD K (ipI fun i j => i + j) mIAdd := by
  intro β H st x y dx dy d Q rx ry S e q
  match dx, dy, rx, ry, e with
  | .int i, .int j, rx, ry, e => cases e; cases rx; cases ry; exact ⟨i, j, rfl, rfl, q _ _ (Same.refl H) (.int _)⟩
theorem od_isub {K : Zx} : OpD K (ipI fun i j => i - j) mISub := by
  intro β H st x y dx dy d Q rx ry S e q
  match dx, dy, rx, ry, e with
  | .int i, .int j, rx, ry, e => cases e; cases rx; cases ry; exact ⟨i, j, rfl, rfl, q _ _ (Same.refl H) (.int _)⟩
section
variable {X : Cx} {W : WX} {pos : Pos} {e : Expr} {f : G D}
theorem ds_aug {i : Nat} {x : Str} {pos' : Pos} {op : Operator} {rd : R2} {m : D → D → Sto → Option D} (hN : X.N.Nodup) (hi : X.N[i]? = some x) (hx : Loc X.env.scope x) (he : DE X W e f) (ho : PIp X op rd) (hm : OpD (zOf X) rd m)
    (hf : X.fn x = true ∨ X.env.scope.names.lookup x = some .local := by first | exact .inl rfl | exact .inr rfl | assumption) : DS X W (.AugAssign (.Name x pos') op e pos) (sAug m i f) := by
  refine PSmono (ps_aug hN hi hx he ho hf) fun D' σ H h => ?_
  obtain ⟨β, ρ, st, hρ, hs, h⟩ := h
  have h := Out.sat_bind h
  unfold gVar at h
  split at h
  · rename_i d0 hd0
    obtain ⟨v0, hv0, r0⟩ := hρ.2 i d0 hd0
    refine ⟨v0, hv0, ?_⟩
    refine tD_intro hρ hs (Out.sat_bind h) (fun d s1 h1 v β1 H1 e1 S1 r1 => ?_) fun _ _ q => xs_x q
    obtain ⟨d3, q, p⟩ := oout_sat (Out.sat_bind h1)
    exact hm β1 H1 s1 v0 v d0 d d3 _ (Rep.ext e1 _ _ r0) r1 S1 q fun w' H' s' r' => p _ β1 H' (e1.trans (Ext.same s')) (S1.same s') ((hρ.ext (e1.trans (Ext.same s'))).set i r')
  · exact h.elim
end
end DL
namespace DL
open PySem PySem.Spec L2
open PyProof.Rows hiding St
/-! ### a, b, c = x, y, z -/
def sPar3 (i j l : Nat) (f : G (List D)) : G Fl := fun ρ st => (f ρ st).bind fun ds s1 => match ds with
  | [a, b, c] => .ok (.nx (((ρ.set i (some a)).set j (some b)).set l (some c))) s1
  | _ => .bad
section
variable {X : Cx} {W : WX} {pos : Pos} {a b c : Expr} {fs : G (List D)}
theorem ds_par3 {i j l : Nat} {x y z : Str} {px py pz pt : Pos} {kt k2 pt2} (hc : X.calm = true) (hN : X.N.Nodup) (hi : X.N[i]? = some x) (hj : X.N[j]? = some y) (hl : X.N[l]? = some z) (hij : i ≠ j) (hil : i ≠ l) (hjl : j ≠ l)
    (hx : X.env.scope.names.lookup x = some .local) (hy : X.env.scope.names.lookup y = some .local) (hz : X.env.scope.names.lookup z = some .local) (ha : DA X W [a, b, c] fs)
    (hw : swappedStores [.Tuple [.Name x px, .Name y py, .Name z pz] kt pt] (.Tuple [a, b, c] k2 pt2) X.env = pure (some [x, y, z]))
    (hs : swapsWithSole [.Tuple [.Name x px, .Name y py, .Name z pz] kt pt] (.Tuple [a, b, c] k2 pt2) pos.line X.env = pure false := by rfl) :
    DS X W (.Assign [.Tuple [.Name x px, .Name y py, .Name z pz] kt pt] (.Tuple [a, b, c] k2 pt2) pos) (sPar3 i j l fs) := by
  refine PSmono (ps_par3 hc hN hi hj hl hij hil hjl hx hy hz ha hw hs) fun D' σ H h => ?_
  obtain ⟨β, ρ, st, hρ, hs, h⟩ := h
  refine tDA_intro hρ hs (Out.sat_bind h) (fun ds s1 h1 vs β1 H1 e1 S1 r1 => ?_) fun _ _ q => xs_x q
  split at h1
  · rename_i d1 d2 d3
    cases r1 with
    | cons q1 r1 =>
      obtain ⟨v, w, rfl, q2, q3⟩ := r1.two
      exact ⟨_, v, w, rfl, h1 _ β1 H1 e1 S1 ((((hρ.ext e1).set i q1).set j q2).set l q3)⟩
  · exact h1.elim
end
end DL
namespace DL
open PySem PySem.Spec L2
open PyProof.Rows hiding St
/-! ### rows for simp -/
section
variable {ρ : Env} {st : Sto} {f g : G D} {fs : G (List D)} {m : D → List D → Sto → Option D} {x : Str} {i j : Int} {l : List D} {n k : Nat} {d e : D}
@[simp] theorem isStr_str : isStr (.str x) = true := rfl
@[simp] def kM0 (m : D → List D → Sto → Option D) (d : D) (s1 : Sto) : Out D := if isStr d = true then oout (m d [] s1) s1 else .bad
@[simp] theorem e_M0 : gM0 m f ρ st = (f ρ st).bind (kM0 m) := rfl
@[simp] def kM12 (m : D → List D → Sto → Option D) (d e : D) (s2 : Sto) : Out D := oout (m d [e] s2) s2
@[simp] def kM1 (m : D → List D → Sto → Option D) (g : G D) (ρ : Env) (d : D) (s1 : Sto) : Out D := if isStr d = true then (g ρ s1).bind (kM12 m d) else .bad
@[simp] theorem e_M1 : gM1 m f g ρ st = (f ρ st).bind (kM1 m g ρ) := rfl
@[simp] def kEnum (d : List D) (s1 : Sto) : Out (List D) := oout (mEnum d) s1
@[simp] theorem e_Enum : gEnum fs ρ st = (fs ρ st).bind kEnum := rfl
@[simp] theorem o_enumt : mEnum [.tup l] = some (enumD 0 l) := rfl
@[simp] theorem o_enuml : mEnum [.lst l] = some (enumD 0 l) := rfl
@[simp] def kAug2 (n : Nat) (ρ : Env) (z : D) (s1 : Sto) : Out Fl := .ok (.nx (ρ.set n (some z))) s1
@[simp] def kAug1 (m : D → D → Sto → Option D) (n : Nat) (ρ : Env) (x d : D) (s1 : Sto) : Out Fl := (oout (m x d s1) s1).bind (kAug2 n ρ)
@[simp] def kAug (m : D → D → Sto → Option D) (n : Nat) (f : G D) (ρ : Env) (x : D) (s0 : Sto) : Out Fl := (f ρ s0).bind (kAug1 m n ρ x)
@[simp] theorem e_Aug {m : D → D → Sto → Option D} : sAug m n f ρ st = (gVar n ρ st).bind (kAug m n f ρ) := rfl
@[simp] theorem o_iadd : mIAdd (.int i) (.int j) st = some (.int (i + j)) := rfl
@[simp] theorem o_isub : mISub (.int i) (.int j) st = some (.int (i - j)) := rfl
def par3Out (i j l : Nat) (ρ : Env) (ds : List D) (s1 : Sto) : Out Fl := match ds with
  | [a, b, c] => .ok (.nx (((ρ.set i (some a)).set j (some b)).set l (some c))) s1
  | _ => .bad
@[simp] theorem e_par3Out {c : D} {l : Nat} : par3Out n k l ρ [d, e, c] st = .ok (.nx (((ρ.set n (some d)).set k (some e)).set l (some c))) st := rfl
@[simp] theorem e_sPar3 {l : Nat} : sPar3 n k l fs ρ st = (fs ρ st).bind (par3Out n k l ρ) := rfl
end
end DL
namespace DL
open PySem PySem.Spec L2
open PyProof.Rows hiding St
section
variable {ρ : Env} {st : Sto} {fo fv : G D} {l : List D} {n : Nat} {o v : D}
def kApp2 (o v : D) (s2 : Sto) : Out D := match mLstAt o s2 with
  | some (n, l) => if l.length < LIM then .ok .non (s2.set n (.lst (l ++ [v]))) else .bad
  | none => .bad
def kApp (fv : G D) (ρ : Env) (o : D) (s1 : Sto) : Out D := match mLstAt o s1 with
  | none => .bad
  | some _ => (fv ρ s1).bind (kApp2 o)
@[simp] theorem e_App : gAppend fo fv ρ st = (fo ρ st).bind (kApp fv ρ) := rfl
theorem app_1 (h : st[n]? = some (.lst l)) : kApp fv ρ (.ref n) st = (fv ρ st).bind (kApp2 (.ref n)) := by
  simp only [kApp, mLstAt, h]
theorem app_2 (h : st[n]? = some (.lst l)) (hl : l.length < LIM) : kApp2 (.ref n) v st = .ok .non (st.set n (.lst (l ++ [v]))) := by
  simp only [kApp2, mLstAt, h, if_pos hl]
end
end DL

set_option Elab.async false
set_option linter.all false
set_option maxRecDepth 100000
set_option maxHeartbeats 2000000
/-! # Instances of the text's classes: made, their fields read and stored -/
namespace DL
open PySem PySem.Spec L2
open PyProof.Rows hiding St
def putD (f : Str) (v : D) : List (Str × D) → List (Str × D)
  | [] => [(f, v)]
  | (g, x) :: r => if g = f then (g, v) :: r else (g, x) :: putD f v r
theorem fs_lookup {K : Zx} {β : Bx} {H : Hp} {f : Str} {d : D} : ∀ {vs : List (Str × V)} {fs : List (Str × D)}, vs.map (·.1) = fs.map (·.1) → Reps K β H (vs.map (·.2)) (fs.map (·.2)) → fs.lookup f = some d → ∃ v, vs.lookup f = some v ∧ Rep K β H v d
  | [], [], _, _, h => by cases h
  | [], _ :: _, e, _, _ => by cases e
  | _ :: _, [], e, _, _ => by cases e
  | (g, x) :: vs, (g', y) :: fs, e, r, h => by
    simp only [List.map_cons, List.cons.injEq] at e
    obtain ⟨e1, e2⟩ := e
    have e1 : g = g' := e1
    subst e1
    cases r with
    | cons r1 r2 =>
      rw [List.lookup_cons] at h ⊢
      cases q : f == g with
      | true =>
        rw [q] at h
        cases h
        exact ⟨x, rfl, r1⟩
      | false =>
        rw [q] at h
        exact fs_lookup e2 r2 h
theorem fs_put {K : Zx} {β : Bx} {H : Hp} {f : Str} {v : V} {d : D} (rv : Rep K β H v d) : ∀ {vs : List (Str × V)} {fs : List (Str × D)}, vs.map (·.1) = fs.map (·.1) → Reps K β H (vs.map (·.2)) (fs.map (·.2)) →
    (putF f v vs).map (·.1) = (putD f d fs).map (·.1) ∧ Reps K β H ((putF f v vs).map (·.2)) ((putD f d fs).map (·.2))
  | [], [], _, _ => ⟨rfl, .cons rv .nil⟩
  | [], _ :: _, e, _ => by cases e
  | _ :: _, [], e, _ => by cases e
  | (g, x) :: vs, (g', y) :: fs, e, r => by
    simp only [List.map_cons, List.cons.injEq] at e
    obtain ⟨e1, e2⟩ := e
    have e1 : g = g' := e1
    subst e1
    cases r with
    | cons r1 r2 =>
      unfold putF putD
      by_cases q : g = f
      · rw [if_pos q, if_pos q]
        simp only [List.map_cons]
        exact ⟨by rw [e2], .cons rv r2⟩
      · rw [if_neg q, if_neg q]
        obtain ⟨h1, h2⟩ := fs_put (f := f) rv e2 r2
        simp only [List.map_cons]
        exact ⟨by rw [h1], .cons r1 h2⟩
/-- what is known of a class of the text -/
structure InsC (K : PySem.W.Frag) (cn : Str) (C : Addr) : Prop where
  g : PySem.W.nsIn K mainGlobals cn = some (some (.ref C))
  cls : Cls K C
def gFld (cn f : Str) (fe : G D) : G D := fun ρ st => (fe ρ st).bind fun o s1 => match o with
  | .ref n => (match s1[n]? with
    | some (.ins c fs) => if c = cn then oout (fs.lookup f) s1 else .bad
    | _ => .bad)
  | _ => .bad
def sFldSet (cn f : Str) (fo fv : G D) : G Fl := fun ρ st => (fv ρ st).bind fun v s1 => (fo ρ s1).bind fun o s2 => match o with
  | .ref n => (match s2[n]? with
    | some (.ins c fs) => if c = cn ∧ fs.length < 1000 then .ok (.nx ρ) (s2.set n (.ins c (putD f v fs))) else .bad
    | _ => .bad)
  | _ => .bad
/-- C(..): its __init__ is m -/
def gMake (cn : Str) (m : List D → Sto → Out D) (fs : G (List D)) : G D := fun ρ st => (fs ρ st).bind fun ds s1 => match m (.ref s1.length :: ds) (s1 ++ [SO.ins cn []]) with
  | .ok .non s2 => .ok (.ref s1.length) s2
  | _ => .bad
section
variable {X : Cx} {W : WX} {pos p pos' : Pos} {x cn f : Str} {C : Addr} {e o value : Expr} {es : List Expr} {fe fo fv : G D} {fs : G (List D)}
theorem de_fld (I : InsC X.K cn C) (n : NoAttr X.K C f) (he : DE X W e fe) (hb : attributeBase e f X.env (eval e X.env) = eval e X.env := by rfl) : DE X W (.Attribute e f pos) (gFld cn f fe) := by
  refine PEmono (pe_fld he hb) fun σ H Q h => ?_
  obtain ⟨β, ρ, st, hρ, hs, h⟩ := h
  refine tD_intro hρ hs (Out.sat_bind h) (fun d s1 h1 v β1 H1 e1 S1 r1 => ?_) fun _ _ q => q
  split at h1
  · rename_i m
    split at h1
    · rename_i c fs hm
      split at h1
      · rename_i hc
        subst hc
        obtain ⟨d, hd, p⟩ := oout_sat h1
        cases r1 with
        | ref hl =>
          obtain ⟨u, hu, rel⟩ := S1.get hl
          rw [hm] at hu
          cases hu
          obtain ⟨C', dx, vs, g, hH, ek, rr⟩ := rel
          have hCC : C = C' := by
            have z := I.g.symm.trans g
            cases z
            rfl
          subst hCC
          obtain ⟨v, hv, rv⟩ := fs_lookup ek rr hd
          exact ⟨_, _, dx, vs, v, rfl, hH, I.cls, n, hv, p v β1 H1 e1 S1 rv⟩
      · exact h1.elim
    · exact h1.elim
  · exact h1.elim
theorem ds_fld (I : InsC X.K cn C) (n : NoAttr X.K C f) (ha : DE X W o fo) (hv : DE X W value fv) (hs : swapsWith value (some (.Attribute o f pos')) pos.line X.env = pure false := by rfl) : DS X W (.Assign [.Attribute o f pos'] value pos) (sFldSet cn f fo fv) := by
  refine PSmono (ps_fld ha hv hs) fun D' σ H h => ?_
  obtain ⟨β, ρ, st, hρ, hs, h⟩ := h
  refine tD_intro hρ hs (Out.sat_bind h) (fun d s1 h1 v β1 H1 e1 S1 r1 => ?_) fun _ _ q => xs_x q
  refine tD_intro (hρ.ext e1) S1 (Out.sat_bind h1) (fun d2 s2 h2 v2 β2 H2 e2 S2 r2 => ?_) fun _ _ q => (xs_x q).ext e1
  split at h2
  · rename_i m
    split at h2
    · rename_i c fs hm
      split at h2
      · rename_i hc
        obtain ⟨hc, hz⟩ := hc
        subst hc
        cases r2 with
        | ref hl =>
          obtain ⟨u, hu, rel⟩ := S2.get hl
          rw [hm] at hu
          cases hu
          obtain ⟨C', dx, vs, g, hH, ek, rr⟩ := rel
          have hCC : C = C' := by
            have z := I.g.symm.trans g
            cases z
            rfl
          subst hCC
          have hlen : vs.length = fs.length := by
            have := congrArg List.length ek
            simpa using this
          refine ⟨_, _, dx, vs, rfl, hH, I.cls, n, by omega, ?_⟩
          have ew : Ext β2 H2 β2 (upd H2 _ (.ins C dx (putF f v vs))) := Ext.write hl hH (fun _ z => by cases z) (fun _ _ z => by cases z) (fun _ _ z => by unfold LamX.CodeO at z; cases z) (fun _ z => by cases z)
          obtain ⟨p1, p2⟩ := fs_put (f := f) (Rep.ext (e2.trans ew) _ _ r1) ek (Reps.ext ew _ _ rr)
          exact h2 σ β2 _ ((e1.trans e2).trans ew) (S2.write hl ew ⟨C, dx, _, g, upd_same, p1, p2⟩) (hρ.ext ((e1.trans e2).trans ew))
      · exact h2.elim
    · exact h2.elim
  · exact h2.elim
theorem passF {X : Cx} : Passes (L2.CX X.prog X.w) X (fun _ _ _ => False) := fun pins σ H s e s' I c => by
  obtain ⟨_, _, _, _, _, _, _, _, _, _, _, _, z⟩ := c
  exact z.elim
theorem de_make {k : Nat} {fI : Addr} {fd : FuncData} {ps : List Str} {m : List D → Sto → Out D} (M : Mk X.K C fI) (F : FnD X.prog X.w X.K X.mg X.base k fI fd ps m) (hr : Room (k + 1) X.A) (hg : Gl X x) (hm : X.mg x = some (.ref C)) (hb : Binds X.K fd ps []) (I : PySem.W.nsIn X.K mainGlobals cn = some (some (.ref C)))
    (hl : (e :: es).length + 1 = ps.length) (ha : DA X W (e :: es) fs) (hdb : (x == ("__debug__" : Str)) = false := by decide) (he : starEach (e :: es) X.env = (false, eval e X.env) :: starEach es X.env := by rfl) (hpl : (backTo pos (starEach es X.env)).any (·.1) = false := by rfl) (hfl : ∀ ρ st ds s1, fs ρ st = .ok ds s1 → ds.length = (e :: es).length) :
    DE X W (.Call (.Name x p) (e :: es) [] pos) (gMake cn m fs) := by
  refine PEmono (pe_make (E := fun _ _ _ => False) (dvs := []) M F hr hg hm hb .nil passF ha hdb he hpl) fun σ H Q h => ?_
  obtain ⟨β, ρ, st, hρ, hs, h⟩ := h
  have h := Out.sat_bind h
  cases q : fs ρ st with
  | bad => rw [q] at h; exact h.elim
  | exn y s => exact ⟨β, ρ, st, hρ, hs, by rw [q] at h ⊢; exact h⟩
  | ok ds s1 =>
    refine ⟨β, ρ, st, hρ, hs, ?_⟩
    rw [q] at h ⊢
    have hlen := hfl _ _ _ _ q
    refine fun vs β1 H1 e1 S1 r1 a dx na nd hda => ?_
    have h : (match m (.ref s1.length :: ds) (s1 ++ [SO.ins cn []]) with
      | .ok .non s2 => Out.ok (D.ref s1.length) s2
      | _ => .bad).sat _ _ := h
    have ed : Ext β1 H1 β1 (upd H1 dx (.own a)) := Ext.new nd
    have na' : upd H1 dx (.own a) a = none := by rw [upd_ne (Ne.symm hda)]; exact na
    have eg : Ext β1 (upd H1 dx (.own a)) (β1.add a) (upd (upd H1 dx (.own a)) a (.ins C dx [])) := Ext.grow na'
    have S3 : StoOk (zOf X) (β1.add a) (upd (upd H1 dx (.own a)) a (.ins C dx [])) (s1 ++ [SO.ins cn []]) := (S1.fresh nd).grow na' ⟨C, dx, [], I, upd_same, rfl, .nil⟩
    have eT := ed.trans eg
    have hmem : (β1.add a).lo[s1.length]? = some a := by
      show (β1.lo ++ [a])[s1.length]? = some a
      rw [← S1.len, List.getElem?_append_right (Nat.le_refl _)]
      simp
    rw [List.append_nil]
    refine ⟨β1.add a, .ref s1.length :: ds, s1 ++ [SO.ins cn []], .cons (.ref hmem) (Reps.ext eT _ _ r1), S3, by rw [List.length_cons, r1.length, hlen]; exact hl, ?_⟩
    cases z : m (.ref s1.length :: ds) (s1 ++ [SO.ins cn []]) with
    | bad => rw [z] at h; exact h.elim
    | exn y s => rw [z] at h; exact h.elim
    | ok d s2 =>
      rw [z] at h
      cases d <;> first | exact h.elim | skip
      exact fun v β2 H2 e2 S2 r2 => by
        cases r2
        exact ⟨rfl, h (.ref a) β2 H2 ((e1.trans eT).trans e2) S2 (.ref (e2.mem hmem))⟩
end
/-! ### rows for simp -/
section
variable {ρ : Env} {st : Sto} {cn f : Str} {fe fo fv : G D} {fs : G (List D)} {n : Nat} {l : List (Str × D)} {v : D} {m : List D → Sto → Out D} {ds : List D}
def fldOut (cn f : Str) (o : D) (s1 : Sto) : Out D := match o with
  | .ref n => (match s1[n]? with
    | some (.ins c fs) => if c = cn then oout (fs.lookup f) s1 else .bad
    | _ => .bad)
  | _ => .bad
@[simp] theorem e_Fld : gFld cn f fe ρ st = (fe ρ st).bind (fldOut cn f) := rfl
theorem fld_at (h : st[n]? = some (.ins cn l)) : fldOut cn f (.ref n) st = oout (l.lookup f) st := by
  simp only [fldOut, h, if_true]
def fldSetOut (cn f : Str) (ρ : Env) (v o : D) (s2 : Sto) : Out Fl := match o with
  | .ref n => (match s2[n]? with
    | some (.ins c fs) => if c = cn ∧ fs.length < 1000 then .ok (.nx ρ) (s2.set n (.ins c (putD f v fs))) else .bad
    | _ => .bad)
  | _ => .bad
@[simp] def kFldSet (cn f : Str) (fo : G D) (ρ : Env) (v : D) (s1 : Sto) : Out Fl := (fo ρ s1).bind (fldSetOut cn f ρ v)
@[simp] theorem e_FldSet : sFldSet cn f fo fv ρ st = (fv ρ st).bind (kFldSet cn f fo ρ) := rfl
theorem fldset_at (h : st[n]? = some (.ins cn l)) (hl : l.length < 1000) : fldSetOut cn f ρ v (.ref n) st = .ok (.nx ρ) (st.set n (.ins cn (putD f v l))) := by
  simp only [fldSetOut, h]
  rw [if_pos ⟨trivial, hl⟩]
def makeOut (n : Nat) (o : Out D) : Out D := match o with
  | .ok .non s2 => .ok (.ref n) s2
  | _ => .bad
@[simp] theorem e_makeOut : makeOut n (.ok .non st) = .ok (.ref n) st := rfl
@[simp] def kMake (cn : Str) (m : List D → Sto → Out D) (ds : List D) (s1 : Sto) : Out D := makeOut s1.length (m (.ref s1.length :: ds) (s1 ++ [SO.ins cn []]))
@[simp] theorem e_Make : gMake cn m fs ρ st = (fs ρ st).bind (kMake cn m) := rfl
end
end DL

set_option Elab.async false
set_option linter.all false
set_option maxRecDepth 100000
set_option maxHeartbeats 2000000
/-! # Lambdas with parameters, handed on and called -/
namespace DL
open PySem PySem.Spec L2
open PyProof.Rows hiding St
open LamX hiding takes0
/-- the names of a lambda: captured ones, its parameters ps, globals -/
structure LamP (ps : List Str) (scope : Scope) : Prop where
  kind : scope.kind = .function
  co : scope.isCoroutine = false
  gen : scope.isGenerator = false
  cell : ∀ y ∈ scope.names, y.2 ≠ .cell
  par : ∀ p ∈ ps, scope.names.lookup p = some .local
  own : ∀ y ∈ scope.names, y.2 = .local → y.1 ∈ ps
  cap : ∀ x ∈ capN scope, scope.names.lookup x = some .free
  nd : (capN scope ++ ps).Nodup
def lamPB (ps : List Str) (scope : Scope) : Bool :=
  decide (scope.kind = .function) && !scope.isCoroutine && !scope.isGenerator && scope.names.all (fun y => !decide (y.2 = .cell) && (!decide (y.2 = .local) || decide (y.1 ∈ ps))) &&
    ps.all (fun p => decide (scope.names.lookup p = some .local)) && (capN scope).all (fun x => decide (scope.names.lookup x = some .free)) && decide (capN scope ++ ps).Nodup
theorem lamP_by {ps : List Str} {scope : Scope} (h : lamPB ps scope = true) : LamP ps scope := by
  unfold lamPB at h
  simp only [Bool.and_eq_true, Bool.or_eq_true, Bool.not_eq_true', decide_eq_true_eq, decide_eq_false_iff_not, List.all_eq_true] at h
  obtain ⟨⟨⟨⟨⟨⟨h1, h2⟩, h3⟩, h4⟩, h5⟩, h6⟩, h7⟩ := h
  exact ⟨h1, h2, h3, fun y hy => (h4 y hy).1, h5, fun y hy e => (h4 y hy).2.elim (fun z => absurd e z) id, h6, h7⟩
/-- the context of a lambda's body -/
def cloCx (X : Cx) (A : Around) (outer : List PySem.Env) (s : Shared) (H : Hp) (E : XK) (q : Str) (scope : Scope) (cl : List (Str × Addr)) (N : List Str) (f c' : Addr) : Cx where
  prog := X.prog
  w := X.w
  K := X.K
  mg := X.mg
  base := X.base
  A := A.deeper (PySem.W.envX q scope s.heap.objs.size f (.ref c') cl)
  N := N
  s_0 := s
  H_0 := H
  env := PySem.W.envX q scope s.heap.objs.size f (.ref c') cl
  outer := outer
  stack := PySem.W.envX q scope s.heap.objs.size f (.ref c') cl :: outer
  ex := []
  fn := fun _ => false
  calm := true
  pn := []
  xe := fun e s' => wpAny (model X.prog X.w) (A.deeper (PySem.W.envX q scope s.heap.objs.size f (.ref c') cl)) (leaving (PySem.W.envX q scope s.heap.objs.size f (.ref c') cl) e) (fun _ s'' => L2.CX X.prog X.w outer H s E e s'') (fun e' s'' => L2.CX X.prog X.w outer H s E e' s'') s'
section
variable {X : Cx} {pins : List (Addr × Obj)} {σ : L2.St} {H : Hp} {s : Shared}
theorem zip_rev_lookup {ps : List Str} {us : List Value} (nd : ps.Nodup) (hl : us.length = ps.length) {i : Nat} {p : Str} {u : Value} (hp : ps[i]? = some p) (hu : us[i]? = some u) : (ps.zip us).reverse.lookup p = some u := by
  have key : ∀ (l : List (Str × Value)), (l.map (·.1)).Nodup → (p, u) ∈ l → l.lookup p = some u := by
    intro l
    induction l with
    | nil => intro _ h; cases h
    | cons a l ih =>
      intro hn h
      obtain ⟨x, y⟩ := a
      simp only [List.map_cons, List.nodup_cons] at hn
      rw [List.lookup_cons]
      rcases List.mem_cons.mp h with e | h2
      · cases e
        simp
      · have hne : (p == x) = false := by
          rw [beq_eq_false_iff_ne]
          intro z
          subst z
          exact hn.1 (List.mem_map.mpr ⟨(p, u), h2, rfl⟩)
        rw [hne]
        exact ih hn.2 h2
  refine key _ ?_ ?_
  · rw [List.map_reverse, List.map_fst_zip (by omega)]
    exact (List.reverse_perm _).nodup_iff.mpr nd
  · rw [List.mem_reverse]
    refine List.mem_iff_getElem?.mpr ⟨i, ?_⟩
    rw [List.getElem?_zip_eq_some]
    exact ⟨hp, hu⟩
theorem clo_start {A : Around} {outer : List PySem.Env} {E : XK} {q : Str} {scope : Scope} {ps : List Str} {cl : List (Str × Addr)} {f c' : Addr} {h₁ : Heap} {tk : Nat} {vs as : List V} {us : List Value} (L : LamP ps scope) (e0 : Env0 X.prog X.w X.K X.mg X.base A outer s H) (hd : A.handled = none)
    (C : CapOk X.base scope cl vs) (r : Vals as us) (hl : us.length = ps.length)
    (hns : h₁.Ns s.heap.objs.size fun y => (ps.zip us).reverse.lookup y) (kp : ∀ b o, s.heap.get? b = some o → h₁.get? b = some o) :
    L2.Inv (cloCx X A outer s H E q scope cl (capN scope ++ ps) f c') [] ((vs ++ as).map some) H { s with heap := h₁, toks := tk } := by
  obtain ⟨C1, C2, C3, C4⟩ := C
  have hal : as.length = ps.length := by rw [r.length, hl]
  have cellOf : ∀ {x c}, cl.lookup x = some c → ∃ u, X.base.IsCell c (some u) := fun {x c} h => by
    have hx := C3 x c h
    obtain ⟨i, hi⟩ := List.mem_iff_getElem?.mp hx
    have hiv : i < vs.length := by
      rw [C1]
      exact (List.getElem?_eq_some_iff.mp hi).1
    obtain ⟨c2, u, e1, e2, _⟩ := C2 i x _ hi (List.getElem?_eq_getElem hiv)
    rw [h] at e1
    cases e1
    exact ⟨u, e2⟩
  have noA : ∀ b : Addr, b ∉ (cloCx X A outer s H E q scope cl (capN scope ++ ps) f c').ex := fun b z => absurd (show b ∈ ([] : List Addr) from z) (by simp)
  refine ⟨⟨e0.mod, L.kind, rfl, rfl, Nat.le_refl _, C4, fun y hy => ?_, fun y c z _ => ?_, fun _ => hd, Around.frames_deeper e0.frames, .inr ⟨rfl, rfl⟩, fun b z => absurd z (noA b), e0.bs, e0.bsz, fun b _ _ => noA b,
      fun b z => absurd z (noA b), e0.funs, e0.frf⟩,
    rfl, e0.bare, Un.kept kp, ⟨_, hns, fun i y v e1 e2 e3 => ?_⟩, fun y c e => ?_, e0.hok.fresh (Nat.le_refl _), fun y c e => ?_, fun q hq => absurd (show q ∈ ([] : List (Addr × Obj)) ++ [] from hq) (by simp), e0.hok.kept kp, ?_⟩
  · have hy : scope.names.lookup y = some .cell ∨ scope.names.lookup y = some .free := hy
    rcases hy with hy | hy
    · exact absurd rfl (L.cell _ (PySem.mem_of_lookup hy))
    · have hm : y ∈ capN scope := List.mem_filterMap.mpr ⟨(y, .free), PySem.mem_of_lookup hy, rfl⟩
      obtain ⟨i, hi⟩ := List.mem_iff_getElem?.mp hm
      have hiv : i < vs.length := by
        rw [C1]
        exact (List.getElem?_eq_some_iff.mp hi).1
      obtain ⟨c, u, e1, _, _⟩ := C2 i y _ hi (List.getElem?_eq_getElem hiv)
      exact ⟨c, e1⟩
  · have z : false = true := z
    cases z
  · have e1 : (capN scope ++ ps)[i]? = some y := e1
    have e3 : Vis scope y := e3
    rw [List.getElem?_map] at e2
    by_cases hi : i < (capN scope).length
    · rw [List.getElem?_append_left hi] at e1
      rw [List.getElem?_append_left (by rw [C1]; exact hi)] at e2
      have hiv : i < vs.length := by rw [C1]; exact hi
      rw [List.getElem?_eq_getElem hiv] at e2
      have e2 := Option.some.inj (Option.some.inj e2)
      obtain ⟨c, u, f1, f2, f3⟩ := C2 i y _ e1 (List.getElem?_eq_getElem hiv)
      rw [e2] at f3
      have hk : scope.names.lookup y = some .free := L.cap y (List.mem_of_getElem? e1)
      obtain ⟨o, ho, hdt⟩ := f2
      exact ⟨u, f3, .inr ⟨.inr hk, c, f1, ⟨o, kp _ _ (e0.bs c o ho).1, hdt⟩⟩⟩
    · have hi : (capN scope).length ≤ i := Nat.le_of_not_lt hi
      rw [List.getElem?_append_right hi] at e1
      rw [List.getElem?_append_right (by rw [C1]; exact hi), C1] at e2
      have hj : i - (capN scope).length < as.length := by
        rw [hal]
        exact (List.getElem?_eq_some_iff.mp e1).1
      rw [List.getElem?_eq_getElem hj] at e2
      have e2 := Option.some.inj (Option.some.inj e2)
      obtain ⟨u, hu, ru⟩ := r.get (List.getElem?_eq_getElem hj)
      rw [e2] at ru
      have hk : scope.names.lookup y = some .local := L.par y (List.mem_of_getElem? e1)
      exact ⟨u, ru, .inl ⟨hk, zip_rev_lookup (List.nodup_append.mp L.nd).2.1 hl e1 hu⟩⟩
  · have e : cl.lookup y = some c := e
    obtain ⟨u, o, ho, hdt⟩ := cellOf e
    exact ⟨_, o, kp _ _ (e0.bs c o ho).1, hdt⟩
  · have e : cl.lookup y = some c := e
    obtain ⟨u, o, ho, hdt⟩ := cellOf e
    exact (e0.bs c o ho).2
  · show ((vs ++ as).map some).length = (capN scope ++ ps).length
    rw [List.length_map, List.length_append, List.length_append, C1, hal]
end
/-! ### x(e, ..), x a name that holds a lambda -/
def gClo (i : Nat) (tab : List (Str × G D)) (fs : G (List D)) : G D := fun ρ st => match ρ[i]? with
  | some (some (.clo d caps)) => (match tab.lookup d with
    | some gb => (fs ρ st).bind fun ds s1 => (gb ((caps ++ ds).map some) s1).nox
    | none => .bad)
  | _ => .bad
/-- what is known of the lambda of the def d: its parameters ps, its body's reading gb -/
structure LamB (P : Program) (w : World) (K : PySem.W.Frag) (mg : Str → Option Value) (base : Heap) (k n : Nat) (d : Str) (gb : G D) where
  L : LamD
  ps : List Str
  is : lamIn P d = some L
  lam : LamP ps L.scope
  len : ps.length = n
  bind : ∀ (q : Str) (cl : List (Str × Addr)) (pm cv ctv : Value) (us : List Value), us.length = ps.length → bindArgs (PySem.W.kla_fn "<lambda>" q L.params L.body L.scope cl pm cv ctv) ⟨us, []⟩ = pure (ps.zip us)
  body : ∀ (X : Cx), X.prog = P → X.w = w → X.K = K → X.mg = mg → X.base = base → ∀ (A : Around) (outer : List PySem.Env) (s : Shared) (H : Hp) (E : XK) (f c' : Addr) (cl : List (Str × Addr)), Room k (A.deeper (PySem.W.envX (lamQn d) L.scope s.heap.objs.size f (.ref c') cl)) →
    DE (cloCx X A outer s H E (lamQn d) L.scope cl (capN L.scope ++ ps) f c') (WE' E) L.body gb
section
variable {X : Cx} {W : WX} {pos p : Pos} {x : Str} {e : Expr} {es : List Expr} {fs : G (List D)} {k i : Nat} {tab : List (Str × G D)}
theorem de_clo (hN : X.N[i]? = some x) (hv : Vis X.env.scope x) (hr : Room (k + 1) X.A) (ht : ∀ d gb, tab.lookup d = some gb → Nonempty (LamB X.prog X.w X.K X.mg X.base k (e :: es).length d gb))
    (ha : DA X W (e :: es) fs) (hfl : ∀ ρ st ds s1, fs ρ st = .ok ds s1 → ds.length = (e :: es).length) (hdb : (x == ("__debug__" : Str)) = false := by decide) (hcd : (x == ("__classdict__" : Str)) = false := by decide)
    (he : starEach (e :: es) X.env = (false, eval e X.env) :: starEach es X.env := by rfl) (hpl : (backTo pos (starEach es X.env)).any (·.1) = false := by rfl) : DE X W (.Call (.Name x p) (e :: es) [] pos) (gClo i tab fs) := by
  refine ⟨fun pins s σ H Q I h => ?_⟩
  obtain ⟨β, ρ, st, hρ, hs, h⟩ := h
  unfold gClo at h
  split at h
  · rename_i d caps hd
    split at h
    · rename_i gb hgb
      obtain ⟨B⟩ := ht d gb hgb
      obtain ⟨v0, hv0, rv⟩ := hρ.2 i _ hd
      have h := Out.sat_bind h
      cases rv with
      | @clo f c' d' L' cl pm ctv vs ds' hL hf hco hC rr =>
        have hLL : L' = B.L := Option.some.inj (hL.symm.trans B.is)
        subst hLL
        refine wpAny_Call_Name_kw (thn ((pe_var (pos := p) hN hv hdb hcd).run pins s σ H (fun v H1 => v = .ref f ∧ H1 = H) I ⟨.ref f, hv0, rfl, rfl⟩) fun u s1 ⟨v, H1, I1, r1, q1⟩ => ?_)
        obtain ⟨rfl, rfl⟩ := q1
        cases r1
        have fnat : ∀ {s : Shared} {H : Hp}, L2.Inv X pins σ H s → PySem.W.FnAt f s.heap := fun I => ⟨_, _, _, _, (I.bs f _ hf).1⟩
        refine PySem.W.callWith_F (fnat I1) (thn (ha.run pos pins s1 σ _ (fun as H2 => ∃ β2 ds s2, Ext β H1 β2 H2 ∧ StoOk (zOf X) β2 H2 s2 ∧ Reps (zOf X) β2 H2 as ds ∧ ds.length = (e :: es).length ∧ ((gb ((caps ++ ds).map some) s2).nox).sat (PostV (zOf X) Q β H1) (PostX (zOf X) X.mg (fun c d H' => W c d σ H') β H1)) I1 ?_) fun us s2 ⟨as, H2, I2, r, q⟩ => ⟨fnat I2, ?_⟩) he hpl
        · cases q : fs ρ st with
          | bad => rw [q] at h; exact h.elim
          | exn y s' => exact ⟨β, ρ, st, hρ, hs, by rw [q] at h ⊢; exact h⟩
          | ok ds s' =>
            rw [q] at h
            refine ⟨β, ρ, st, hρ, hs, ?_⟩
            rw [q]
            exact fun as β' H' e' S' r' => ⟨β', ds, s', e', S', r', hfl _ _ _ _ q, h⟩
        · obtain ⟨β2, ds, st2, ex, S2, r2, hlen, hb⟩ := q
          have hul : us.length = B.ps.length := by
            rw [← Paired.length r, r2.length, hlen, B.len]
          obtain ⟨⟨oc, vo, t, hoc, hdc, hvc⟩, _, _⟩ := I2.hok c' _ (ex.cod _ _ hco)
          have rc : codeAny (model X.prog X.w) X.A (.call (.ref f) ⟨us, []⟩) (CR (L2.CX X.prog X.w) X.stack X.prog X.w H2 s2 Q (fun _ _ _ => False)) s2 := by
            refine PySem.W.kla_callFunE hr.depth (I2.bs f _ hf).1 rfl B.lam.co B.lam.gen rfl ⟨c', oc, vo, t, rfl, hoc, hdc, hvc⟩ ?_
            rw [B.bind _ _ _ _ _ us hul]
            refine wpAny_pure (wpAny_newFunctionEnv B.lam.cell (fun y hy => B.lam.par _ (List.of_mem_zip hy).1) (fun h₁ hns hsb => ⟨I2.nolimit.fresh _ hsb, ?_⟩) B.lam.kind)
            show codeAny _ _ (.expr B.L.body (PySem.W.envX (lamQn d) B.L.scope s2.heap.objs.size f (.ref c') cl)) _ _
            have kp : ∀ b o, s2.heap.get? b = some o → h₁.get? b = some o := fun b o e => hsb.extBut b o (Nat.ne_of_lt (Heap.lt_size e)) (Heap.get?_push_of_some _ e)
            have J := clo_start (X := X) (E := fun _ _ _ => False) (q := lamQn d) (f := f) (c' := c') (tk := s2.toks + (B.ps.zip us).length) B.lam I2.env0 hr.hd hC r hul hns kp
            refine PySem.W.kla_codeExpr (wpAny_mono ((B.body X rfl rfl rfl rfl rfl X.A X.stack s2 H2 (fun _ _ _ => False) f c' cl (hr.deeper _)).run [] _ _ H2 Q J ⟨β2, (caps ++ ds).map some, st2, ?_, S2, ?_⟩) (fun v s' hq => ?_) fun e s' hq => hq)
            · have rall : Reps (zOf X) β2 H2 (vs ++ as) (caps ++ ds) := (Reps.ext ex _ _ rr).append r2
              refine ⟨by rw [List.length_map, List.length_map, rall.length], fun j d' hj => ?_⟩
              rw [List.getElem?_map] at hj
              cases q : (caps ++ ds)[j]? with
              | none => rw [q] at hj; cases hj
              | some d2 =>
                rw [q] at hj
                have hj := Option.some.inj (Option.some.inj hj)
                subst hj
                obtain ⟨w', hw, rw'⟩ := rall.get q
                exact ⟨w', by rw [List.getElem?_map, hw]; rfl, rw'⟩
            · cases z' : gb ((caps ++ ds).map some) st2 with
              | bad => rw [z'] at hb; exact hb.elim
              | exn y s' => rw [z'] at hb; exact hb.elim
              | ok d' s' =>
                rw [z'] at hb
                exact fun v β' H' e' S' r' => hb v β' H' (ex.trans e') S' r'
            · obtain ⟨w', H', J', rv, q⟩ := hq
              exact ⟨w', H', J'.os, J'.bare, J'.base, J'.hok, rv, q⟩
          refine wpAny_call (codeAny_mono rc fun r s' hq => ?_)
          cases r with
          | error er => exact passF pins σ H2 s2 er s' I2 hq
          | ok fl =>
            cases fl with
            | ret u => exact I2.after hq
            | next => exact False.elim hq
            | brk => exact False.elim hq
            | cont => exact False.elim hq
    · exact h.elim
  · exact h.elim
end
end DL

set_option Elab.async false
set_option linter.all false
set_option maxRecDepth 100000
set_option maxHeartbeats 2000000
/-! # A lambda with parameters handed to a def: that def's promise over a larger base -/
namespace DL
open PySem PySem.Spec L2
open PyProof.Rows hiding St
open LamX hiding takes0
/-! ### data without lambdas -/
mutual
def D.cf : D → Bool
  | .tup l => dsCf l
  | .lst l => dsCf l
  | .ro l => dsCf l
  | .clo _ _ => false
  | _ => true
def dsCf : List D → Bool
  | [] => true
  | d :: r => D.cf d && dsCf r
end
def SO.cf : SO → Bool
  | .lst l => dsCf l
  | .dK l => dsCf (l.map (·.2))
  | .dN l => dsCf (l.map (·.1)) && dsCf (l.map (·.2))
  | .ins _ l => dsCf (l.map (·.2))
  | _ => true
abbrev Cf (st : Sto) : Prop := st.all SO.cf = true
theorem dsCf_append : ∀ a b : List D, dsCf (a ++ b) = (dsCf a && dsCf b)
  | [], b => by simp [dsCf]
  | d :: a, b => by simp [dsCf, dsCf_append a b, Bool.and_assoc]
theorem dsCf_all : ∀ l : List D, dsCf l = l.all D.cf
  | [] => rfl
  | d :: l => by simp [dsCf, dsCf_all l]
section
variable {P : Program} {w : World} {K : PySem.W.Frag} {b1 b2 : Heap} {β : Bx} {H : Hp}
mutual
theorem Rep.up (hb : ∀ b o, b1.get? b = some o → b2.get? b = some o) : ∀ (d : D) (v : V), Rep ⟨P, K, w, b1⟩ β H v d → Rep ⟨P, K, w, b2⟩ β H v d
  | .non, _, h => by cases h; exact .non
  | .bl _, _, h => by cases h; exact .bl _
  | .int _, _, h => by cases h; exact .int _
  | .str _, _, h => by cases h; exact .str _
  | .tup ds, _, h => by cases h with | tup hs ha hl => exact .tup hs (Reps.up hb ds _ ha) hl
  | .lst ds, _, h => by cases h with | lst hs hn ha hl => exact .lst hs hn (Reps.up hb ds _ ha) hl
  | .ro ds, _, h => by cases h with | ro hs ha hl => exact .ro hs (Reps.up hb ds _ ha) hl
  | .ref _, _, h => by cases h with | ref hm => exact .ref hm
  | .raw _, _, h => by cases h; exact .raw _
  | .clo _ ds, _, h => by
    cases h with
    | clo h1 h2 h3 h4 h5 =>
      obtain ⟨c1, c2, c3, c4⟩ := h4
      exact .clo h1 (hb _ _ h2) h3 ⟨c1, fun i x v e1 e2 => let ⟨c, u, z1, ⟨o, z2, z3⟩, z4⟩ := c2 i x v e1 e2; ⟨c, u, z1, ⟨o, hb _ _ z2, z3⟩, z4⟩, c3, c4⟩ (Reps.up hb ds _ h5)
theorem Reps.up (hb : ∀ b o, b1.get? b = some o → b2.get? b = some o) : ∀ (ds : List D) (vs : List V), Reps ⟨P, K, w, b1⟩ β H vs ds → Reps ⟨P, K, w, b2⟩ β H vs ds
  | [], _, h => by cases h; exact .nil
  | d :: ds, _, h => by cases h with | cons h1 h2 => exact .cons (Rep.up hb d _ h1) (Reps.up hb ds _ h2)
end
mutual
theorem Rep.dn : ∀ (d : D) (v : V), d.cf = true → Rep ⟨P, K, w, b1⟩ β H v d → Rep ⟨P, K, w, b2⟩ β H v d
  | .non, _, _, h => by cases h; exact .non
  | .bl _, _, _, h => by cases h; exact .bl _
  | .int _, _, _, h => by cases h; exact .int _
  | .str _, _, _, h => by cases h; exact .str _
  | .tup ds, _, c, h => by cases h with | tup hs ha hl => exact .tup hs (Reps.dn ds _ c ha) hl
  | .lst ds, _, c, h => by cases h with | lst hs hn ha hl => exact .lst hs hn (Reps.dn ds _ c ha) hl
  | .ro ds, _, c, h => by cases h with | ro hs ha hl => exact .ro hs (Reps.dn ds _ c ha) hl
  | .ref _, _, _, h => by cases h with | ref hm => exact .ref hm
  | .raw _, _, _, h => by cases h; exact .raw _
  | .clo _ ds, _, c, h => by cases c
theorem Reps.dn : ∀ (ds : List D) (vs : List V), dsCf ds = true → Reps ⟨P, K, w, b1⟩ β H vs ds → Reps ⟨P, K, w, b2⟩ β H vs ds
  | [], _, _, h => by cases h; exact .nil
  | d :: ds, _, c, h => by
    have c : (D.cf d && dsCf ds) = true := c
    rw [Bool.and_eq_true] at c
    cases h with | cons h1 h2 => exact .cons (Rep.dn d _ c.1 h1) (Reps.dn ds _ c.2 h2)
end
theorem SORel.rebase {a : Addr} {o : SO} (up : ∀ ds vs, (o.cf = true → dsCf ds = true) → Reps ⟨P, K, w, b1⟩ β H vs ds → Reps ⟨P, K, w, b2⟩ β H vs ds) (h : SORel ⟨P, K, w, b1⟩ β H a o) : SORel ⟨P, K, w, b2⟩ β H a o := by
  cases o with
  | lst ds => obtain ⟨xs, h, r⟩ := h; exact ⟨xs, h, up _ _ id r⟩
  | dK kvs => obtain ⟨vs, h, l, k, r⟩ := h; exact ⟨vs, h, l, k, up _ _ id r⟩
  | tab d q => exact h
  | dN kvs =>
    obtain ⟨es, h, l, k, r1, r2⟩ := h
    exact ⟨es, h, l, k, up _ _ (fun c => by have c : (_ && _) = true := c; rw [Bool.and_eq_true] at c; exact c.1) r1, up _ _ (fun c => by have c : (_ && _) = true := c; rw [Bool.and_eq_true] at c; exact c.2) r2⟩
  | ins c fs => obtain ⟨C, dx, vs, hc, h, l, r⟩ := h; exact ⟨C, dx, vs, hc, h, l, up _ _ id r⟩
  | lock => exact h
theorem StoOk.up {st : Sto} (hb : ∀ b o, b1.get? b = Option.some o → b2.get? b = Option.some o) (S : StoOk ⟨P, K, w, b1⟩ β H st) : StoOk ⟨P, K, w, b2⟩ β H st := ⟨S.len, S.nd, fun n a o h1 h2 => (S.obj n a o h1 h2).rebase fun ds vs _ r => Reps.up hb ds vs r, S.priv⟩
theorem StoOk.dn {st : Sto} (c : Cf st) (S : StoOk ⟨P, K, w, b1⟩ β H st) : StoOk ⟨P, K, w, b2⟩ β H st := ⟨S.len, S.nd, fun n a o h1 h2 => (S.obj n a o h1 h2).rebase fun ds vs z r => Reps.dn ds vs (z (List.all_eq_true.mp c o (List.mem_of_getElem? h2))) r, S.priv⟩
end
/-! ### a larger base -/
theorem only_at (h : Heap) (p : Addr → Bool) : ∃ G : Heap, G.objs.size = h.objs.size ∧ (∀ b o, p b = true → h.get? b = some o → G.get? b = some o) ∧ (∀ b o, G.get? b = some o → h.get? b = some o) ∧ ∀ b, p b = false → G.get? b = none := by
  have m2 : ∀ b, b < h.objs.size → p b = false → b ∈ (List.range h.objs.size).filter fun b => !p b := fun b h1 h2 => List.mem_filter.mpr ⟨List.mem_range.mpr h1, by simp [h2]⟩
  refine ⟨PySem.W.hideAll h ((List.range h.objs.size).filter fun b => !p b), PySem.W.hideAll_size _ _, fun b o hp ho => PySem.W.hideAll_get _ ho fun hm => ?_, fun b o q => PySem.W.of_hideAll _ q, fun b hb => ?_⟩
  · have z := (List.mem_filter.mp hm).2
    rw [hp] at z
    cases z
  · cases q : (PySem.W.hideAll h ((List.range h.objs.size).filter fun b => !p b)).get? b with
    | none => rfl
    | some o =>
      rw [PySem.W.hideAll_none _ (m2 b (Heap.lt_size (PySem.W.of_hideAll _ q)) hb)] at q
      cases q
theorem fun_rebase {h b1 b2 : Heap} : ∀ {l : List PySem.Env}, (∀ b ∈ frs l, b1.get? b = none → b2.get? b = none) → h.FunFrames b1 l → h.FunFrames b2 l
  | [], _, _ => trivial
  | env :: l, k, hl => by
    obtain ⟨hk, ⟨L, o, hf, hn, ho, hd⟩, hr⟩ := hl
    have hm : ∀ b, b = L ∨ b ∈ frs l → b ∈ frs (env :: l) := fun b hb => by
      unfold frs at hb ⊢
      rw [List.filterMap_cons, hf]
      exact hb.elim (fun e => by rw [e]; exact List.mem_cons_self) (List.mem_cons_of_mem _)
    exact ⟨hk, ⟨L, o, hf, k L (hm L (.inl rfl)) hn, ho, hd⟩, fun_rebase (fun b hb => k b (hm b (.inr hb))) hr⟩
theorem Env0.wide {P : Program} {w : World} {K : PySem.W.Frag} {mg : Str → Option Value} {base G : Heap} {A : Around} {outer : List PySem.Env} {s : Shared} {H : Hp} (e : Env0 P w K mg base A outer s H) (hk : ∀ b o, base.get? b = some o → G.get? b = some o)
    (hs : G.objs.size ≤ s.heap.objs.size) (hG : ∀ b o, G.get? b = some o → s.heap.get? b = some o ∧ H b = none) (hf : ∀ b ∈ frs outer, base.get? b = none → G.get? b = none) : Env0 P w K mg G A outer s H :=
  ⟨e.frames, ⟨e.mod.kin.keeps hk, e.mod.glob.keeps hk, let ⟨mb, h1, h2⟩ := e.mod.blt; ⟨mb, h1.keeps hk, h2⟩, e.mod.nolimit.keeps hk⟩, hG, hs, fun_rebase hf e.funs, e.frf, e.hok, e.bare⟩
/-! ### g(e, lambda ps: body) -/
def capsAt : List Nat → Env → Option (List D)
  | [], _ => some []
  | i :: r, ρ => match ρ[i]?, capsAt r ρ with
    | some (some d), some ds => some (d :: ds)
    | _, _ => none
def SO.isTab (d : Str) : SO → Bool
  | .tab d' q => decide (d' = d) && decide (q = lamQn d)
  | _ => false
def gLamArg (d : Str) (is : List Nat) (m : List D → Sto → Out D) (fe : G D) : G D := fun ρ st => (fe ρ st).bind fun a s1 => match capsAt is ρ with
  | some cs => if s1.any (SO.isTab d) = true then (match m [a, .clo d cs] s1 with
    | .ok r s2 => if r.cf = true ∧ Cf s2 then .ok r s2 else .bad
    | _ => .bad) else .bad
  | none => .bad
/-- the slots of the captured names -/
def CapIx (N : List Str) (sc : Scope) (X : Cx) : List Str → List Nat → Prop
  | [], [] => True
  | x :: r, i :: is => N[i]? = some x ∧ X.env.kindOf x = some .cell ∧ X.fn x = true ∧ CapIx N sc X r is
  | _, _ => False
section
variable {X : Cx} {W : WX} {pins : List (Addr × Obj)} {σ : L2.St} {H : Hp} {s : Shared}
/-- what the captured cells hold -/
theorem caps_at {sc : Scope} {β : Bx} {ρ : Env} (I : Inv X pins σ H s) (hρ : RepEnv (zOf X) β H σ ρ) : ∀ {xs : List Str} {is : List Nat} {cs : List D}, CapIx X.N sc X xs is → capsAt is ρ = some cs →
    ∃ vs : List V, vs.length = xs.length ∧ Reps (zOf X) β H vs cs ∧ ∀ (i : Nat) (x : Str) (v : V), xs[i]? = some x → vs[i]? = some v → ∃ c u, X.env.cells.lookup x = some c ∧ s.heap.IsCell c (some u) ∧ RelV v u
  | [], [], cs, _, h => by
    cases h
    exact ⟨[], rfl, .nil, fun i x v e _ => by simp at e⟩
  | [], _ :: _, _, z, _ => z.elim
  | _ :: _, [], _, z, _ => z.elim
  | x :: xs, i :: is, cs, z, h => by
    obtain ⟨hN, hk, hf, hr⟩ := z
    unfold capsAt at h
    split at h
    · rename_i d ds e1 e2
      cases h
      obtain ⟨vs, l, rr, hc⟩ := caps_at (sc := sc) I hρ hr e2
      obtain ⟨v, hv, rv⟩ := hρ.2 i d e1
      refine ⟨v :: vs, by simp [l], .cons rv rr, fun j y w' h1 h2 => ?_⟩
      cases j with
      | zero =>
        simp only [List.getElem?_cons_zero, Option.some.injEq] at h1 h2
        subst h1
        subst h2
        obtain ⟨m, hn, hl⟩ := I.loc
        obtain ⟨u, r, q⟩ := hl i x v hN hv (.inr (.inl hk))
        rcases q with ⟨k', _⟩ | ⟨_, c, hc, z⟩
        · have k1 : X.env.kindOf x = some .local := k'
          rw [hk] at k1
          cases k1
        · exact ⟨c, u, hc, z, r⟩
      | succ j => exact hc j y w' (by simpa using h1) (by simpa using h2)
    · cases h
theorem capIx_mem {N : List Str} {sc : Scope} : ∀ {xs : List Str} {is : List Nat}, CapIx N sc X xs is → ∀ x ∈ xs, X.env.kindOf x = some .cell ∧ X.fn x = true
  | [], _, _, x, hx => by cases hx
  | _ :: _, [], z, _, _ => z.elim
  | y :: xs, i :: is, z, x, hx => by
    obtain ⟨hN, hk, hf, hr⟩ := z
    rcases List.mem_cons.mp hx with e | hx
    · rw [e]
      exact ⟨hk, hf⟩
    · exact capIx_mem hr x hx
theorem mem_capN {sc : Scope} {x : Str} : x ∈ capN sc ↔ (x, NameKind.free) ∈ sc.names := by
  unfold capN
  rw [List.mem_filterMap]
  constructor
  · rintro ⟨⟨y, k⟩, hy, e⟩
    cases k <;> simp at e
    subst e
    exact hy
  · intro h
    exact ⟨_, h, rfl⟩
/-- g(e, lambda ps: body): g's promise is known over every larger base -/
theorem de_lamArg {x d : Str} {g c : Addr} {fd : FuncData} {ps : List Str} {m : List D → Sto → Out D} {k : Nat} {a : Expr} {fe : G D} {is : List Nat} {params : Arguments} {body : Expr} {scope : Scope} {p lpos pos : Pos}
    (hg : Gl X x) (hm : X.mg x = some (.ref g)) (hk : PySem.W.keepIn X.K (.ref g) = true) (F : ∀ base' : Heap, (∀ b o, X.base.get? b = some o → base'.get? b = some o) → FnD X.prog X.w X.K X.mg base' k g fd ps m) (hb : Binds X.K fd ps []) (hl : ps.length = 2)
    (hr : Room k X.A) (TB : TabB X.base X.mg c (tabAddr X.K d)) (hcode : X.env.code = .ref c) (hq : X.env.qual ++ "<lambda>" = lamQn d) (hlam : lamIn X.prog d = some ⟨params, body, scope⟩) (hix : CapIx X.N scope X (capN scope) is)
    (hdef : defaultsOf params X.env = ([], [])) (ha : DE X W a fe) (hdb : (x == ("__debug__" : Str)) = false := by decide)
    (he : starEach [a, .Lambda params body scope lpos] X.env = (false, eval a X.env) :: starEach [.Lambda params body scope lpos] X.env := by rfl) :
    DE X W (.Call (.Name x p) [a, .Lambda params body scope lpos] [] pos) (gLamArg d is m fe) := by
  refine ⟨fun pins s σ H Q I h => ?_⟩
  obtain ⟨β, ρ, st, hρ, hs, h⟩ := h
  refine wpAny_Call_Name_kw (ld_glob I hg hm ?_ hdb)
  refine PySem.W.callWith_K (h₀ := X.base) I.ok.mod.kin hk ?_ he (by rfl)
  rw [he]
  show wpAny _ _ (spliced ((false, eval a X.env) :: (false, eval (.Lambda params body scope lpos) X.env) :: [])) _ _ s
  have h := Out.sat_bind h
  refine Calls.spliced_cons (thn (ha.run pins s σ H (fun v H1 => ∃ β1 da s1, Ext β H β1 H1 ∧ StoOk (zOf X) β1 H1 s1 ∧ Rep (zOf X) β1 H1 v da ∧ (match capsAt is ρ with
      | some cs => if s1.any (SO.isTab d) = true then (match m [da, .clo d cs] s1 with
        | .ok r s2 => if r.cf = true ∧ Cf s2 then Out.ok r s2 else .bad
        | _ => .bad) else .bad
      | none => .bad).sat (PostV (zOf X) Q β H) (PostX (zOf X) X.mg (fun c d H' => W c d σ H') β H)) I ?_) fun ua s1 ⟨va, H1, I1, ra, β1, da, st1, ex1, S1, r1, h1⟩ => ?_)
  · refine ⟨β, ρ, st, hρ, hs, ?_⟩
    cases q : fe ρ st with
    | bad => rw [q] at h; exact h.elim
    | exn y s' => rw [q] at h; exact h
    | ok da s' =>
      rw [q] at h
      exact fun v β' H' e' S' r' => ⟨β', da, s', e', S', r', h⟩
  · split at h1
    · rename_i cs hcs
      split at h1
      · rename_i htab
        obtain ⟨o, ho, hot⟩ := List.any_eq_true.mp htab
        obtain ⟨j, hj⟩ := List.mem_iff_getElem?.mp ho
        have ho2 : o = SO.tab d (lamQn d) := by
          cases o <;> simp [SO.isTab] at hot
          obtain ⟨e1, e2⟩ := hot
          rw [e1, e2]
        subst ho2
        have hfree : ∀ y ∈ scope.names, y.2 = .free → ∃ c, X.env.cells.lookup y.1 = some c := fun y hy e => by
          obtain ⟨y1, y2⟩ := y
          have e : y2 = .free := e
          subst e
          exact I1.ok.has y1 (.inl (capIx_mem hix y1 (mem_capN.mpr hy)).1)
        refine Calls.spliced_cons (lam_make2 (T := tabsOf (zOf X) st1) I1 TB hcode (by rw [hq]; exact tabsOf_mem hj) (fun p hp z => by rw [hq]; exact S1.tabU hj p hp z) S1.tabs hdef hfree fun f c' pm ctv H2 s2 I2 eN T2 hf hfn hfr hco => ?_)
        refine Calls.spliced_nil ⟨I2.kIn, ?_⟩
        have ex2 := ext_lam (β := β1) eN
        have S2 := S1.lam eN T2
        have r2 := Rep.ext ex2 _ _ r1
        have hρ2 := (hρ.ext ex1).ext ex2
        obtain ⟨vs, vl, rr, hcell⟩ := caps_at (sc := scope) I2 hρ2 hix hcs
        -- the cells of the lambda
        have cm : ∀ {y c}, (cloFrom X.env.cells scope.names []).lookup y = some c → y ∈ capN scope ∧ X.env.cells.lookup y = some c := fun {y c} e => by
          rcases cloFrom_mem (PySem.mem_of_lookup e) with hm | ⟨h1, h2⟩
          · cases hm
          · obtain ⟨c1, hc⟩ := hfree _ h1 rfl
            have hc : X.env.cells.lookup y = some c1 := hc
            have e2 : c = c1 := by
              rw [h2, hc] <;> rfl
            rw [e2]
            exact ⟨mem_capN.mpr h1, hc⟩
        have look : ∀ {y}, y ∈ capN scope → ∃ c, (cloFrom X.env.cells scope.names []).lookup y = some c := fun {y} hy => mem_lookup (cloFrom_has (cells := X.env.cells) (acc := []) (mem_capN.mp hy))
        obtain ⟨G, gs, gk, gof, gn⟩ := only_at s2.heap fun b => (X.base.get? b).isSome || decide (b = f) || (capN scope).any fun y => decide (X.env.cells.lookup y = some b)
        have hGb : ∀ b o, X.base.get? b = some o → G.get? b = some o := fun b o e => gk b o (by simp [e]) (I2.bs b o e).1
        have hGf : G.get? f = some (PySem.W.kla_obj "<lambda>" (lamQn d) params body scope (cloFrom X.env.cells scope.names []) pm c' ctv) := gk _ _ (by simp) (by rw [← hq]; exact hf)
        have hGc : ∀ y c u, y ∈ capN scope → X.env.cells.lookup y = some c → s2.heap.IsCell c (some u) → G.IsCell c (some u) := fun y c u hy hc ⟨o, h1, h2⟩ => ⟨o, gk _ _ (by
          rw [Bool.or_eq_true, List.any_eq_true]
          exact .inr ⟨y, hy, by simp [hc]⟩) h1, h2⟩
        have inG : ∀ b o, G.get? b = some o → (X.base.get? b).isSome = true ∨ b = f ∨ ∃ y ∈ capN scope, X.env.cells.lookup y = some b := fun b o e => by
          cases q : ((X.base.get? b).isSome || decide (b = f) || (capN scope).any fun y => decide (X.env.cells.lookup y = some b)) with
          | false =>
            rw [gn b q] at e
            cases e
          | true =>
            rw [Bool.or_eq_true, Bool.or_eq_true, List.any_eq_true] at q
            rcases q with (q | q) | ⟨y, hy, q⟩
            · exact .inl q
            · exact .inr (.inl (of_decide_eq_true q))
            · exact .inr (.inr ⟨y, hy, of_decide_eq_true q⟩)
        have e0 : Env0 X.prog X.w X.K X.mg G X.A X.stack s2 H2 := Env0.wide I2.env0 hGb (Nat.le_of_eq gs) (fun b o e => ⟨gof b o e, by
            rcases inG b o e with q | q | ⟨y, hy, q⟩
            · cases z : X.base.get? b with
              | none => rw [z] at q; cases q
              | some o' => exact (I2.bs b o' z).2
            · rw [q]
              exact hfn
            · exact I2.freeC y b q⟩) fun b hb hn => by
            cases z : G.get? b with
            | none => rfl
            | some o =>
              exfalso
              rcases inG b o z with q | q | ⟨y, hy, q⟩
              · rw [hn] at q
                cases q
              · rw [q] at hb
                exact hfr hb
              · rcases List.mem_cons.mp (I2.stkSub b hb) with e | hb2
                · exact I2.cne y b q e
                · obtain ⟨_, o', ho', _⟩ := I2.ok.funs.mem hb2
                  exact Nat.lt_irrefl _ (Nat.lt_of_lt_of_le (Heap.lt_size ho') (I2.ok.cab y b (capIx_mem hix y hy).2 q))
        have hcap : CapOk G scope (cloFrom X.env.cells scope.names []) vs := ⟨vl, fun i y v h1 h2 => by
            obtain ⟨c1, u, z1, z2, z3⟩ := hcell i y v h1 h2
            have hy := List.mem_of_getElem? h1
            obtain ⟨c2, hc2⟩ := look hy
            have := (cm hc2).2
            rw [z1] at this
            cases this
            exact ⟨c1, u, hc2, hGc y c1 u hy z1 z2, z3⟩, fun y c e => (cm e).1, fun y z c e1 e2 => I2.ok.inj y z c (cm e1).2 (cm e2).2⟩
        have rclo : Rep ⟨X.prog, X.K, X.w, G⟩ β1 H2 (.ref f) (.clo d cs) := .clo (L := ⟨params, body, scope⟩) hlam hGf (by rw [← hq]; exact hco) hcap (Reps.up hGb _ _ rr)
        have rc : codeAny (model X.prog X.w) X.A (.call (.ref g) ⟨[ua, .ref f], []⟩) (CR (L2.CX X.prog X.w) X.stack X.prog X.w H2 s2 Q (fun _ _ _ => False)) s2 := by
          refine (F G hGb).run X.A X.stack s2 H2 ⟨[ua, .ref f], []⟩ [ua, .ref f] [va, .ref f] Q (fun _ _ _ => False) hr e0 ?_ (.cons ra (.cons rfl .nil)) ?_
          · exact hb s2 [ua, .ref f] I2.kIn (by simp [hl])
          · refine ⟨β1, [da, .clo d cs], st1, .cons (Rep.up hGb _ _ r2) (.cons rclo .nil), S2.up hGb, by simp [hl], ?_⟩
            cases q : m [da, .clo d cs] st1 with
            | bad => rw [q] at h1; exact h1.elim
            | exn y s' => rw [q] at h1; exact h1.elim
            | ok r s' =>
              rw [q] at h1
              have h1 : Out.sat (if r.cf = true ∧ Cf s' then Out.ok r s' else .bad) (PostV (zOf X) Q β H) (PostX (zOf X) X.mg (fun c d H' => W c d σ H') β H) := h1
              split at h1
              · rename_i hcf
                exact fun v β' H' e' S' r' => h1 v β' H' ((ex1.trans ex2).trans e') (S'.dn hcf.2) (Rep.dn _ _ hcf.1 r')
              · exact h1.elim
        refine wpAny_call (codeAny_mono rc fun r s' hq => ?_)
        cases r with
        | error er => exact passF pins σ H2 s2 er s' I2 hq
        | ok fl =>
          cases fl with
          | ret u => exact I2.after hq
          | next => exact False.elim hq
          | brk => exact False.elim hq
          | cont => exact False.elim hq
      · exact h1.elim
    · exact h1.elim
end
end DL

set_option Elab.async false
set_option linter.all false
set_option maxRecDepth 100000
set_option maxHeartbeats 2000000
/-! # Dicts by texts and ints; new written lists; tuples many times over -/
namespace DL
open PySem PySem.Spec L2
open PyProof.Rows hiding St
def keyK : D → Option Key
  | .int i => some (.inl i)
  | .str x => some (.inr x)
  | _ => none
def luK : List (Key × D) → Key → Option D
  | [], _ => none
  | (a, v) :: r, k => if a = k then some v else luK r k
def putKD (kvs : List (Key × D)) (k : Key) (v : D) : List (Key × D) :=
  if (kvs.any fun p => decide (p.1 = k)) = true then kvs.map (fun p => if p.1 = k then (p.1, v) else p) else kvs ++ [(k, v)]
section
variable {K : Zx} {β : Bx} {H : Hp}
theorem luK_val {k : Key} : ∀ {vs : List (Key × V)} {kvs : List (Key × D)}, vs.map (·.1) = kvs.map (·.1) → Reps K β H (vs.map (·.2)) (kvs.map (·.2)) → match luK kvs k with
    | some d => ∃ v, valV vs k = some v ∧ Rep K β H v d
    | none => valV vs k = none
  | [], [], _, _ => rfl
  | [], _ :: _, e, _ => by cases e
  | _ :: _, [], e, _ => by cases e
  | (a, x) :: vs, (b, y) :: kvs, e, r => by
    simp only [List.map_cons, List.cons.injEq] at e
    obtain ⟨e1, e2⟩ := e
    have e1 : a = b := e1
    subst e1
    cases r with
    | cons r1 r2 =>
      unfold luK
      by_cases h : a = k
      · rw [if_pos h]
        exact ⟨x, valV_pos h, r1⟩
      · rw [if_neg h]
        rw [valV_neg (p := (a, x)) (by exact h)]
        exact luK_val e2 r2
theorem any_fst {α γ : Type} (k : Key) : ∀ {vs : List (Key × α)} {kvs : List (Key × γ)}, vs.map (·.1) = kvs.map (·.1) → (vs.any fun p => decide (p.1 = k)) = (kvs.any fun p => decide (p.1 = k))
  | [], [], _ => rfl
  | [], _ :: _, e => by cases e
  | _ :: _, [], e => by cases e
  | a :: vs, b :: kvs, e => by
    simp only [List.map_cons, List.cons.injEq] at e
    rw [List.any_cons, List.any_cons, e.1, any_fst k e.2]
theorem map_put {k : Key} {v : V} {d : D} (rv : Rep K β H v d) : ∀ {vs : List (Key × V)} {kvs : List (Key × D)}, vs.map (·.1) = kvs.map (·.1) → Reps K β H (vs.map (·.2)) (kvs.map (·.2)) →
    (vs.map fun kv => if kv.1 = k then (kv.1, v) else kv).map (·.1) = (kvs.map fun p => if p.1 = k then (p.1, d) else p).map (·.1) ∧ Reps K β H ((vs.map fun kv => if kv.1 = k then (kv.1, v) else kv).map (·.2)) ((kvs.map fun p => if p.1 = k then (p.1, d) else p).map (·.2))
  | [], [], _, _ => ⟨rfl, .nil⟩
  | [], _ :: _, e, _ => by cases e
  | _ :: _, [], e, _ => by cases e
  | (a, x) :: vs, (b, y) :: kvs, e, r => by
    simp only [List.map_cons, List.cons.injEq] at e
    obtain ⟨e1, e2⟩ := e
    have e1 : a = b := e1
    subst e1
    cases r with
    | cons r1 r2 =>
      obtain ⟨h1, h2⟩ := map_put (k := k) rv e2 r2
      simp only [List.map_cons]
      by_cases h : a = k
      · simp only [if_pos h]
        exact ⟨by rw [h1], .cons rv h2⟩
      · simp only [if_neg h]
        exact ⟨by rw [h1], .cons r1 h2⟩
theorem putK_rel {k : Key} {v : V} {d : D} (rv : Rep K β H v d) {vs : List (Key × V)} {kvs : List (Key × D)} (e : vs.map (·.1) = kvs.map (·.1)) (r : Reps K β H (vs.map (·.2)) (kvs.map (·.2))) :
    (putK vs k v).map (·.1) = (putKD kvs k d).map (·.1) ∧ Reps K β H ((putK vs k v).map (·.2)) ((putKD kvs k d).map (·.2)) := by
  unfold putK putKD
  rw [any_fst k e]
  by_cases h : (kvs.any fun p => decide (p.1 = k)) = true
  · rw [if_pos h, if_pos h]
    exact map_put rv e r
  · rw [if_neg h, if_neg h, List.map_append, List.map_append, List.map_append, List.map_append]
    exact ⟨by rw [e]; rfl, r.append (.cons rv .nil)⟩
theorem keyK_rel {v : V} {d : D} {k : Key} (r : Rep K β H v d) (h : keyK d = some k) : v = kV k := by
  cases d <;> simp only [keyK, reduceCtorEq, Option.some.injEq] at h
  · subst h
    cases r
    rfl
  · subst h
    cases r
    rfl
end
def dKAt (o : D) (st : Sto) : Option (Nat × List (Key × D)) := match o with
  | .ref n => match st[n]? with
    | some (.dK kvs) => some (n, kvs)
    | _ => none
  | _ => none
theorem dKAt_ok {K : Zx} {β : Bx} {H : Hp} {st : Sto} {o : D} {v : V} {n : Nat} {kvs : List (Key × D)} (h : dKAt o st = some (n, kvs)) (r : Rep K β H v o) (S : StoOk K β H st) :
    o = .ref n ∧ st[n]? = some (.dK kvs) ∧ ∃ a vs, v = .ref a ∧ β.lo[n]? = some a ∧ H a = some (.dK vs) ∧ vs.map (·.1) = kvs.map (·.1) ∧ Reps K β H (vs.map (·.2)) (kvs.map (·.2)) := by
  unfold dKAt at h
  split at h
  · rename_i m
    split at h
    · rename_i l' hl
      cases h
      cases r with
      | ref hm =>
        obtain ⟨so, hso, rel⟩ := S.get hm
        rw [hl] at hso
        cases hso
        obtain ⟨vs, hH, _, ek, rx⟩ := rel
        exact ⟨rfl, hl, _, vs, rfl, hm, hH, ek, rx⟩
    · cases h
  · cases h
def mIxK (o i : D) (st : Sto) : Option D := match dKAt o st, keyK i with
  | some (_, kvs), some k => luK kvs k
  | _, _ => none
def gGetK (fo fi fx : G D) : G D := fun ρ st => (fo ρ st).bind fun o s1 => match dKAt o s1 with
  | none => .bad
  | some _ => (fi ρ s1).bind fun i s2 => (fx ρ s2).bind fun x s3 => match dKAt o s3, keyK i with
    | some (_, kvs), some k => .ok ((luK kvs k).getD x) s3
    | _, _ => .bad
def sPutK (fo fi fv : G D) : G Fl := fun ρ st => (fv ρ st).bind fun v s1 => (fo ρ s1).bind fun o s2 => (fi ρ s2).bind fun i s3 => match dKAt o s3, keyK i with
  | some (n, kvs), some k => if kvs.length < 1000 then .ok (.nx ρ) (s3.set n (.dK (putKD kvs k v))) else .bad
  | _, _ => .bad
section
variable {X : Cx} {W : WX} {pos pos' apos cpos : Pos} {o i e f value : Expr} {es : List Expr} {fo fi fv fx : G D} {k : Nat}
theorem de_ixK (hr : Room k X.A) (ho : DE X W o fo) (hi : DE X W i fi) (hs : NoSl i := by exact fun _ _ => rfl) : DE X W (.Subscript o i pos) (gOp mIxK fo fi) := by
  refine PEmono (pe_dget (hu_of hr) ho hi hs) fun σ H Q h => ?_
  obtain ⟨β, ρ, st, hρ, hs, h⟩ := h
  refine tD_intro hρ hs (Out.sat_bind h) (fun d s1 h1 v β1 H1 e1 S1 r1 => ?_) fun _ _ q => q
  refine tD_intro (hρ.ext e1) S1 (Out.sat_bind h1) (fun d2 s2 h2 v2 β2 H2 e2 S2 r2 => ?_) fun _ _ q => q.ext e1
  obtain ⟨d3, q, p⟩ := oout_sat h2
  unfold mIxK at q
  split at q
  · rename_i n kvs kk hd hk
    obtain ⟨rfl, hst, a, vs, rfl, hm, hH, ek, rr⟩ := dKAt_ok hd (Rep.ext e2 _ _ r1) S2
    have hv := keyK_rel r2 hk
    subst hv
    have z := luK_val (k := kk) ek rr
    rw [q] at z
    obtain ⟨v, z1, z2⟩ := z
    exact ⟨a, v, rfl, by rw [← z1]; exact .k hH, p v β2 H2 (e1.trans e2) S2 z2⟩
  · cases q
theorem de_getK (hr : Room k X.A) (ho : DE X W o fo) (hi : DE X W e fi) (hf : DE X W f fx) (m : M2 X o "get" apos e f cpos) : DE X W (.Call (.Attribute o "get" apos) [e, f] [] cpos) (gGetK fo fi fx) := by
  refine PEmono (pe_dget2 (hu_of hr) ho hi hf m) fun σ H Q h => ?_
  obtain ⟨β, ρ, st, hρ, hs, h⟩ := h
  refine tD_intro hρ hs (Out.sat_bind h) (fun d s1 h1 v β1 H1 e1 S1 r1 => ?_) fun _ _ q => q
  split at h1
  · exact h1.elim
  · rename_i z hz
    obtain ⟨n0, kvs0⟩ := z
    obtain ⟨rfl, hst0, a, vs0, rfl, hm0, hH0, _, _⟩ := dKAt_ok hz r1 S1
    refine ⟨a, rfl, .inl ⟨vs0, .inl hH0⟩, ?_⟩
    refine tD_intro (hρ.ext e1) S1 (Out.sat_bind h1) (fun d2 s2 h2 v2 β2 H2 e2 S2 r2 => ?_) fun _ _ q => q.ext e1
    refine tD_intro ((hρ.ext e1).ext e2) S2 (Out.sat_bind h2) (fun d3 s3 h3 v3 β3 H3 e3 S3 r3 => ?_) fun _ _ q => (q.ext e1).ext e2
    split at h3
    · rename_i n kvs kk hd hk
      obtain ⟨e4, hst, a', vs, e5, hm, hH, ek, rr⟩ := dKAt_ok hd (Rep.ext e3 _ _ (Rep.ext e2 _ _ r1)) S3
      cases e4
      cases e5
      have hv := keyK_rel r2 hk
      subst hv
      have z := luK_val (k := kk) ek rr
      refine ⟨valV vs kk, .k hH, ?_⟩
      cases q : luK kvs kk with
      | none =>
        rw [q] at z h3
        rw [z]
        exact h3 v3 β3 H3 ((e1.trans e2).trans e3) S3 r3
      | some d =>
        rw [q] at z h3
        obtain ⟨v, z1, z2⟩ := z
        rw [z1]
        exact h3 v β3 H3 ((e1.trans e2).trans e3) S3 z2
    · exact h3.elim
theorem ds_putK (hr : Room k X.A) (ho : DE X W o fo) (hi : DE X W i fi) (hv : DE X W value fv) (hs : swapsWith value (some (.Subscript o i pos')) pos.line X.env = pure false := by rfl) : DS X W (.Assign [.Subscript o i pos'] value pos) (sPutK fo fi fv) := by
  refine PSmono (ps_dput (hu_of hr) ho hi hv hs) fun D' σ H h => ?_
  obtain ⟨β, ρ, st, hρ, hs, h⟩ := h
  refine tD_intro hρ hs (Out.sat_bind h) (fun dv s1 h1 v β1 H1 e1 S1 r1 => ?_) fun _ _ q => xs_x q
  refine tD_intro (hρ.ext e1) S1 (Out.sat_bind h1) (fun d_o s2 h2 vo β2 H2 e2 S2 r2 => ?_) fun _ _ q => (xs_x q).ext e1
  refine tD_intro ((hρ.ext e1).ext e2) S2 (Out.sat_bind h2) (fun di s3 h3 vi β3 H3 e3 S3 r3 => ?_) fun _ _ q => ((xs_x q).ext e1).ext e2
  split at h3
  · rename_i n kvs kk hd hk
    split at h3
    · rename_i hz
      obtain ⟨rfl, hst, a, vs, rfl, hm, hH, ek, rr⟩ := dKAt_ok hd (Rep.ext e3 _ _ r2) S3
      have hvk := keyK_rel r3 hk
      subst hvk
      have hl : vs.length = kvs.length := by
        have := congrArg List.length ek
        simpa using this
      refine ⟨a, _, rfl, .k hH (by rw [hl, sizeLine_eq]; omega), ?_⟩
      have ew : Ext β3 H3 β3 (upd H3 a (.dK (putK vs kk v))) := Ext.write hm hH (fun _ z => by cases z) (fun _ _ z => by cases z) (fun _ _ z => by unfold LamX.CodeO at z; cases z) (fun _ z => by cases z)
      obtain ⟨p1, p2⟩ := putK_rel (k := kk) (Rep.ext ((e2.trans e3).trans ew) _ _ r1) ek (Reps.ext ew _ _ rr)
      have p3 : (putK vs kk v).length = (putKD kvs kk dv).length := by
        have := congrArg List.length p1
        simpa using this
      exact h3 σ β3 _ (((e1.trans e2).trans e3).trans ew) (S3.write hm ew ⟨_, upd_same, p3, p1, p2⟩) (((hρ.ext e1).ext e2).ext (e3.trans ew))
    · exact h3.elim
  · exact h3.elim
end
/-! ### {"a": x, ..} -/
abbrev DPs (X : Cx) (W : WX) (pos : Pos) (ks : List (Option Expr)) (vs : List Expr) (ns : List Str) (fs : G (List D)) : Prop := ∃ trs, PPs X pos ks vs trs ∧ ∀ (σ : L2.St) (H : Hp) (Q : List (V × V) → Hp → Prop) (β : Bx) (ρ : Env) (st : Sto), RepEnv (zOf X) β H σ ρ → StoOk (zOf X) β H st →
  (fs ρ st).sat (fun ds st' => ∀ xs β' H', Ext β H β' H' → StoOk (zOf X) β' H' st' → Reps (zOf X) β' H' xs ds → xs.length = ns.length → Q ((ns.map V.str).zip xs) H') (PostX (zOf X) X.mg (fun c d H' => W c d σ H') β H) → tPairs trs σ H Q
section
variable {X : Cx} {W : WX} {pos : Pos} {ks : List (Option Expr)} {vs : List Expr} {ns : List Str} {fs : G (List D)} {f : G D} {e : Expr} {k : Nat}
theorem dps_nil : DPs X W pos [] [] [] aNil := ⟨[], pps_nil, fun σ H Q β ρ st hρ hs h => h [] β H (Ext.refl β H) hs .nil rfl⟩
theorem dps_cons {x : Str} {j : Nat} {p : Pos} (he : DE X W e f) (h : DPs X W pos ks vs ns fs) : DPs X W pos (some (.Constant (.str x) j p) :: ks) (e :: vs) (x :: ns) (aCons f fs) := by
  obtain ⟨trs, hp, ht⟩ := h
  refine ⟨_, pps_cons pe_str he hp, fun σ H Q β ρ st hρ hs h => ?_⟩
  show tD _ _ _ _ _ _ _
  refine tD_intro hρ hs (Out.sat_bind h) (fun d s1 h1 v β1 H1 e1 S1 r1 => ?_) fun _ _ q => q
  refine ht σ H1 _ β1 ρ s1 (hρ.ext e1) S1 ((Out.sat_bind h1).mono (fun ds s2 h2 => fun xs β' H' e' S' r' hl => ?_) fun _ _ q => q.ext e1)
  exact h2 (v :: xs) β' H' (e1.trans e') S' (.cons (Rep.ext e' _ _ r1) r') (by simp [hl])
def keysOf (ns : List Str) (ds : List D) : List (Key × D) := (ns.map (Sum.inr : Str → Key)).zip ds
def gDispK (ns : List Str) (fs : G (List D)) : G D := fun ρ st => match fs ρ st with
  | .ok ds s1 => if ds.length = ns.length then .ok (.ref s1.length) (s1 ++ [.dK (keysOf ns ds)]) else .bad
  | _ => .bad
theorem merge_new : ∀ (l acc : List (Key × V)), ((acc ++ l).map (·.1)).Nodup → mergeK acc l = acc ++ l
  | [], acc, _ => by simp [mergeK]
  | (k, v) :: l, acc, h => by
    have hn : (acc.any fun kv => decide (kv.1 = k)) = false := by
      rw [List.any_eq_false]
      intro p hp
      rw [decide_eq_true_eq]
      intro z
      rw [List.map_append, List.map_cons] at h
      exact (List.nodup_append.mp h).2.2 p.1 (List.mem_map.mpr ⟨p, hp, rfl⟩) k List.mem_cons_self z
    have e : mergeK acc ((k, v) :: l) = mergeK (putK acc k v) l := rfl
    rw [e]
    unfold putK
    rw [hn, if_neg (by simp)]
    rw [merge_new l (acc ++ [(k, v)]) (by rw [List.append_assoc]; exact h), List.append_assoc]
    rfl
theorem zip_kv : ∀ (ns : List Str) (xs : List V), (ns.map V.str).zip xs = ((ns.map (Sum.inr : Str → Key)).zip xs).map fun kv => (kV kv.1, kv.2)
  | [], xs => by simp
  | n :: ns, [] => by simp
  | n :: ns, x :: xs => by
    simp only [List.map_cons, List.zip_cons_cons, zip_kv ns xs]
    rfl
theorem nodup_inr : ∀ {ns : List Str}, ns.Nodup → (ns.map (Sum.inr : Str → Key)).Nodup
  | [], _ => List.nodup_nil
  | n :: ns, h => by
    rw [List.nodup_cons] at h
    rw [List.map_cons, List.nodup_cons]
    refine ⟨fun z => ?_, nodup_inr h.2⟩
    obtain ⟨m, hm, e⟩ := List.mem_map.mp z
    exact h.1 (Sum.inr.inj e ▸ hm)
/-- what the machine held, now filled, is given to the written things -/
theorem grow_held {K : Zx} {β β2 : Bx} {H H2 : Hp} {p : Addr} {st : Sto} {o u : HO} {so : SO} {xs : List V} (hp : H p = none) (hs : ∀ z ∈ β.lo, z ≠ p) (no : ∀ ps, o ≠ .tbl ps) (no2 : ∀ ps, u ≠ .tbl ps) (nl : p ∉ β2.lo) (e : Ext (β.hold p) (upd H p o) β2 H2) (hH : H2 p = some o) (nt : ∀ xs, o ≠ .tup xs) (nf : ∀ ob w, o ≠ .frz ob w) (nL : ∀ xs, o ≠ .lst xs) (nc : ∀ c q, o ≠ LamX.CodeO c q)
    (S2 : StoOk K β2 H2 st) (r : Mv β2 H2 ((β2.back β.pv).add p) (upd H2 p u) → SORel K ((β2.back β.pv).add p) (upd H2 p u) p so) :
    Ext β H ((β2.back β.pv).add p) (upd H2 p u) ∧ StoOk K ((β2.back β.pv).add p) (upd H2 p u) (st ++ [so]) ∧ ((β2.back β.pv).add p).lo[st.length]? = some p ∧ Mv β2 H2 ((β2.back β.pv).add p) (upd H2 p u) := by
  have ne : ∀ b w, H2 b = some w → w ≠ o → b ≠ p := fun b w q n z => by
    rw [z, hH] at q
    exact n (Option.some.inj q).symm
  have hpv : p ∈ β2.pv := by
    rw [e.pv]
    exact List.mem_cons_self
  have mv : Mv β2 H2 ((β2.back β.pv).add p) (upd H2 p u) := by
    refine ⟨fun a xs ha n => ?_, fun b xs q => by rw [upd_ne (ne b _ q fun z => nt _ z.symm)]; exact q, fun b w v q => by rw [upd_ne (ne b _ q fun z => nf _ _ z.symm)]; exact q, fun n a q => ?_, fun c q' z => by rw [upd_ne (ne c _ z fun y => nc _ _ y.symm)]; exact z⟩
    · have hap : a ≠ p := fun z => n.2 (by rw [z]; exact hpv)
      refine ⟨by rw [upd_ne hap]; exact ha, fun z => ?_, fun z => n.2 (by rw [e.pv]; exact List.mem_cons_of_mem _ z)⟩
      rcases List.mem_append.mp z with z | z
      · exact n.1 z
      · exact hap (List.mem_singleton.mp z)
    · show (β2.lo ++ [p])[n]? = some a
      rw [List.getElem?_append_left (List.getElem?_eq_some_iff.mp q).1]
      exact q
  have eh := Ext.held hp e
  have k2 : ∀ b w, b ∈ β2.lo → H2 b = some w → upd H2 p u b = some w := fun b w hb q => by
    rw [upd_ne fun z => nl (by rw [← z]; exact hb)]
    exact q
  refine ⟨⟨?_, rfl, fun b v hb hv hn => ?_, fun b ys q => mv.tup b ys (eh.tup b ys q), fun b w v q => mv.frz b w v (eh.frz b w v q), fun b v q n => ?_, fun c q' z => mv.cod c q' (eh.cod c q' z)⟩, ⟨?_, ?_, fun n a v q1 q2 => ?_, fun q hq => ?_⟩, ?_, mv⟩
  · obtain ⟨new, z1, z2⟩ := eh.pre
    refine ⟨new ++ [p], ?_, fun q hq => ?_⟩
    · show β2.lo ++ [p] = β.lo ++ (new ++ [p])
      rw [← List.append_assoc, ← z1]
      rfl
    · rcases List.mem_append.mp hq with hq | hq
      · exact z2 q hq
      · rw [List.mem_singleton.mp hq]
        exact Free.none hp
  · rw [upd_ne fun z => by rw [z, hp] at hv; cases hv]
    exact eh.keep b v hb hv hn
  · by_cases hb : b = p
    · exact ⟨u, by rw [hb, upd_same], no2⟩
    · obtain ⟨w, hw, nw⟩ := eh.dom b v q n
      exact ⟨w, by rw [upd_ne hb]; exact hw, nw⟩
  · simp [Bx.add, Bx.back, S2.len]
  · exact List.nodup_append.mpr ⟨S2.nd, by simp, fun x hx y hy => by rw [List.mem_singleton.mp hy]; exact fun z => nl (z ▸ hx)⟩
  · have q1 : (β2.lo ++ [p])[n]? = some a := q1
    by_cases hn : n < β2.lo.length
    · rw [List.getElem?_append_left hn] at q1
      rw [List.getElem?_append_left (by rw [← S2.len]; exact hn)] at q2
      exact (S2.obj n a v q1 q2).move mv fun w z => k2 a w (List.mem_of_getElem? q1) z
    · have hn' : n = β2.lo.length := by
        have := (List.getElem?_eq_some_iff.mp q1).1
        simp at this
        omega
      subst hn'
      rw [List.getElem?_append_right (Nat.le_refl _)] at q1
      rw [S2.len, List.getElem?_append_right (Nat.le_refl _)] at q2
      simp at q1 q2
      subst q1 q2
      exact r mv
  · have hq2 : q ∈ β2.pv := by
      rw [e.pv]
      exact List.mem_cons_of_mem _ hq
    obtain ⟨w, hw, nw⟩ := S2.priv q hq2
    by_cases hqp : q = p
    · exact ⟨u, by rw [hqp, upd_same], no2⟩
    · exact ⟨w, by rw [upd_ne hqp]; exact hw, nw⟩
  · show (β2.lo ++ [p])[st.length]? = some p
    rw [← S2.len]
    simp
theorem de_dispK (h : DPs X W pos ks vs ns fs) (nd : ns.Nodup) (h15 : ns.length ≤ 15)
    (hall : ks.all (·.isSome) = true := by rfl) (hl : ks.length = vs.length := by rfl) (h0 : ks ≠ [] := by exact fun z => by cases z) (hk15 : ks.length ≤ 15 := by decide) : DE X W (.Dict ks vs pos) (gDispK ns fs) := by
  obtain ⟨trs, hp, ht⟩ := h
  refine PEmono (pe_disp hp hall hl h0 hk15) fun σ H Q h => ?_
  obtain ⟨β, ρ, st, hρ, hs, h⟩ := h
  intro p hp
  have no : ∀ ps : Array Value, HO.dK [] ≠ .tbl ps := fun _ z => by cases z
  have S0 : StoOk (zOf X) (β.hold p) (upd H p (.dK [])) st := hs.hold hp
  have hρ0 : RepEnv (zOf X) (β.hold p) (upd H p (.dK [])) σ ρ := ⟨hρ.1, fun i d q => let ⟨v, h1, h2⟩ := hρ.2 i d q; ⟨v, h1, Rep.move (Mv.hold hp) _ _ h2⟩⟩
  refine ht σ _ _ (β.hold p) ρ st hρ0 S0 ?_
  unfold gDispK at h
  cases q : fs ρ st with
  | bad => rw [q] at h; exact h.elim
  | exn x s => rw [q] at h; exact h.elim
  | ok ds s1 =>
    rw [q] at h
    refine fun xs β' H' e' S' r' hlen => ?_
    have hdl : ds.length = ns.length := by rw [← r'.length, hlen]
    have h : Out.sat (if ds.length = ns.length then Out.ok (D.ref s1.length) (s1 ++ [SO.dK (keysOf ns ds)]) else .bad) _ _ := h
    rw [if_pos hdl] at h
    have hnl : p ∉ β'.lo := by
      obtain ⟨new, z1, z2⟩ := e'.pre
      rw [z1]
      intro z
      rcases List.mem_append.mp z with z | z
      · exact (hs.nmem hp).1 z
      · obtain ⟨ps, z⟩ := z2 p z _ upd_same
        cases z
    have hH' : H' p = some (.dK []) := e'.keep p _ (hs.nmem hp).1 upd_same no
    refine ⟨hH', (ns.map (Sum.inr : Str → Key)).zip xs, zip_kv ns xs, ?_, ?_⟩
    · rw [List.length_zip, List.length_map]
      omega
    have em : mergeK [] ((ns.map (Sum.inr : Str → Key)).zip xs) = (ns.map (Sum.inr : Str → Key)).zip xs := by
      rw [merge_new _ _ ?_, List.nil_append]
      rw [List.nil_append, List.map_fst_zip (by rw [List.length_map, hlen]; exact Nat.le_refl _)]
      exact nodup_inr nd
    rw [em]
    have f1 : ((ns.map (Sum.inr : Str → Key)).zip xs).map (·.1) = ns.map (Sum.inr : Str → Key) := List.map_fst_zip (by rw [List.length_map, hlen]; exact Nat.le_refl _)
    have f2 : (keysOf ns ds).map (·.1) = ns.map (Sum.inr : Str → Key) := List.map_fst_zip (by rw [List.length_map, hdl]; exact Nat.le_refl _)
    have g1 : ((ns.map (Sum.inr : Str → Key)).zip xs).map (·.2) = xs := List.map_snd_zip (by rw [List.length_map, hlen]; exact Nat.le_refl _)
    have g2 : (keysOf ns ds).map (·.2) = ds := List.map_snd_zip (by rw [List.length_map, hdl]; exact Nat.le_refl _)
    obtain ⟨G1, G2, G3, G4⟩ := grow_held (K := zOf X) (o := .dK []) (u := .dK ((ns.map (Sum.inr : Str → Key)).zip xs)) (so := .dK (keysOf ns ds)) (xs := []) hp (fun z hz e => (hs.nmem hp).1 (e ▸ hz)) no (fun _ z => by cases z) hnl e' hH' (fun _ z => by cases z) (fun _ _ z => by cases z) (fun _ z => by cases z) (fun _ _ z => by unfold LamX.CodeO at z; cases z) S' fun mv => ⟨_, upd_same, by
        have := congrArg List.length (f1.trans f2.symm)
        simpa using this, f1.trans f2.symm, by rw [g1, g2]; exact Reps.move mv _ _ r'⟩
    exact h (.ref p) _ _ G1 G2 (.ref G3)
end
/-! ### a new list that will be written -/
def OpN (K : Zx) (r : R2) (m : D → D → Sto → Option (List D)) : Prop := ∀ (β : Bx) (H : Hp) (st : Sto) (x y : V) (dx dy : D) (l : List D) (Q : VK), Rep K β H x dx → Rep K β H y dy → StoOk K β H st → m dx dy st = some l →
  (∀ p xs, H p = none → Reps K β H xs l → Q (.ref p) (upd H p (.lst xs))) → r x y H Q
def CallN (K : Zx) (r : List V → Hp → VK → Prop) (m : List D → Sto → Option (List D)) : Prop := ∀ (β : Bx) (H : Hp) (st : Sto) (xs : List V) (ds l : List D) (Q : VK), Reps K β H xs ds → StoOk K β H st → m ds st = some l →
  (∀ p ys, H p = none → Reps K β H ys l → Q (.ref p) (upd H p (.lst ys))) → r xs H Q
def gOpN (m : D → D → Sto → Option (List D)) (f g : G D) : G D := fun ρ st => (f ρ st).bind fun d s1 => (g ρ s1).bind fun e s2 => match m d e s2 with
  | some l => .ok (.ref s2.length) (s2 ++ [.lst l])
  | none => .bad
def gCBN (m : List D → Sto → Option (List D)) (f : G (List D)) : G D := fun ρ st => (f ρ st).bind fun ds s1 => match m ds s1 with
  | some l => .ok (.ref s1.length) (s1 ++ [.lst l])
  | none => .bad
section
variable {X : Cx} {W : WX} {pos p : Pos} {a b e : Expr} {es : List Expr} {f g : G D} {fs : G (List D)} {K : Zx} {β β0 : Bx} {H H0 : Hp} {st : Sto}
theorem fin_new {Q : VK} {l : List D} {ys : List V} {p : Addr} (h : PostV K Q β0 H0 (.ref st.length) (st ++ [.lst l])) (e : Ext β0 H0 β H) (S : StoOk K β H st) (hp : H p = none) (r : Reps K β H ys l) : Q (.ref p) (upd H p (.lst ys)) :=
  h (.ref p) (β.add p) _ (e.trans (Ext.grow hp)) (S.grow hp ⟨ys, upd_same, Reps.ext (Ext.grow hp) _ _ r⟩) (.ref (by
    rw [← S.len]
    simp [Bx.add]))
theorem de_opN {op : Operator} {r : R2} {m : D → D → Sto → Option (List D)} (ho : OpR X (binaryOp op) r) (hm : OpN (zOf X) r m) (ha : DE X W a f) (hb : DE X W b g) : DE X W (.BinOp a op b pos) (gOpN m f g) := by
  refine PEmono (pe_op ho ha hb) fun σ H Q h => ?_
  obtain ⟨β, ρ, st, hρ, hs, h⟩ := h
  refine tD_intro hρ hs (Out.sat_bind h) (fun d s1 h1 v β1 H1 e1 S1 r1 => ?_) fun _ _ q => q
  refine tD_intro (hρ.ext e1) S1 (Out.sat_bind h1) (fun d2 s2 h2 v2 β2 H2 e2 S2 r2 => ?_) fun _ _ q => q.ext e1
  split at h2
  · rename_i l q
    exact hm β2 H2 s2 v v2 d d2 l Q (Rep.ext e2 _ _ r1) r2 S2 q fun p xs hp rr => fin_new h2 (e1.trans e2) S2 hp rr
  · exact h2.elim
theorem de_callTyN {x : Str} {T : String} {r : List V → Hp → VK → Prop} {m : List D → Sto → Option (List D)} (hc : CallR X (.type T) r) (hm : CallN (zOf X) r m) (hg : Gl X x) (hmg : X.mg x = none) (hv : bootBuiltins x = some (.type T)) (ha : DA X W (e :: es) fs) (hn : x ≠ "__name__" := by decide) (hdb : (x == ("__debug__" : Str)) = false := by decide)
    (he : starEach (e :: es) X.env = (false, eval e X.env) :: starEach es X.env := by rfl) (hpl : (backTo pos (starEach es X.env)).any (·.1) = false := by rfl) : DE X W (.Call (.Name x p) (e :: es) [] pos) (gCBN m fs) := by
  refine PEmono (pe_callTy hc hg hmg hv ha hn hdb he hpl) fun σ H Q h => ?_
  obtain ⟨β, ρ, st, hρ, hs, h⟩ := h
  refine tDA_intro hρ hs (Out.sat_bind h) (fun d s1 h1 v β1 H1 e1 S1 r1 => ?_) fun _ _ q => q
  split at h1
  · rename_i l q
    exact hm β1 H1 s1 v d l Q r1 S1 q fun p ys hp rr => fin_new h1 e1 S1 hp rr
  · exact h1.elim
def mListN : List D → Sto → Option (List D)
  | [.tup l], _ => some l
  | [.lst l], _ => some l
  | [.ro l], _ => some l
  | _, _ => none
theorem cn_list : CallN K (rListD K) mListN := by
  intro β H st xs ds l Q r S e q
  match ds, r, e with
  | [.tup l], r, e =>
    obtain ⟨v, rfl, r1⟩ := r.one
    cases e
    cases r1 with | tup h1 h2 h3 => exact ⟨_, _, rfl, .inr h1, fun p hp => q p _ hp h2⟩
  | [.lst l], r, e =>
    obtain ⟨v, rfl, r1⟩ := r.one
    cases e
    cases r1 with | lst h1 hn h2 h3 => exact ⟨_, _, rfl, .inl (SqL.of h1), fun p hp => q p _ hp h2⟩
  | [.ro l], r, e =>
    obtain ⟨v, rfl, r1⟩ := r.one
    cases e
    cases r1 with | ro h1 h2 h3 => exact ⟨_, _, rfl, .inl h1.sqL, fun p hp => q p _ hp h2⟩
def mRepN : D → D → Sto → Option (List D)
  | .lst a, .int k, _ => if 0 ≤ k ∧ k ≤ 1000 ∧ a.length ≤ 1000 then some (List.replicate k.toNat a).flatten else none
  | _, _, _ => none
theorem on_rep : OpN K rMulD mRepN := by
  intro β H st x y dx dy l Q rx ry S e q
  cases dx <;> cases dy <;> simp only [mRepN, reduceCtorEq] at e
  case lst.int a k =>
    split at e
    · rename_i hz
      have e := Option.some.inj e
      cases ry; subst e
      cases rx with
      | lst h1 hn h2 h3 =>
        rename_i p xs
        have hl := h2.length
        have hk : k.toNat ≤ 1000 := by omega
        have hm : a.length * k.toNat ≤ 1000 * 1000 := Nat.mul_le_mul hz.2.2 hk
        exact .inr ⟨_, _, xs, rfl, rfl, h1, by omega, by omega, by rw [hl]; exact leLIM hm, fun p hp => q p _ hp (reps_flatten h2 _)⟩
    · cases e
end
end DL

set_option Elab.async false
set_option linter.all false
set_option maxRecDepth 100000
set_option maxHeartbeats 2000000
/-! # zip of a list and a tuple -/
namespace DL
open PySem PySem.Spec L2
open PyProof.Rows hiding St
/-- a sequence's iterator that stands at an item, that item drawn -/
structure Drw (prog : Program) (w : World) (it src : Addr) (P P' : Heap → Prop) (x : Value) : Prop where
  stay : ∀ h h' : Heap, P h → (∀ c o, c = it ∨ c = src → h.get? c = some o → h'.get? c = some o) → P h'
  stay' : ∀ h h' : Heap, P' h → (∀ c o, c = it ∨ c = src → h.get? c = some o → h'.get? c = some o) → P' h'
  live : ∀ h, P' h → it < h.objs.size
  next : ∀ (A : Around) (E : Value → Shared → Prop) (s : Shared) (Q : Value → Shared → Prop), P s.heap → (∀ h', P' h' → Heap.SameBut it s.heap h' → Q x { s with heap := h' }) → wpAny (model prog w) A (Builtin.SmallTypes.nextOf (.ref it)) Q E s
structure Dry (prog : Program) (w : World) (it src : Addr) (P : Heap → Prop) : Prop where
  stay : ∀ h h' : Heap, P h → (∀ c o, c = it ∨ c = src → h.get? c = some o → h'.get? c = some o) → P h'
  fin : ∀ (A : Around) (E : Value → Shared → Prop) (s : Shared) (Q : Value → Shared → Prop), A.handled = none → P s.heap → (∀ h' e, Heap.ExtBut it s.heap h' → (∃ o, h'.get? e = some o ∧ o.cls = .type "StopIteration") → E (.ref e) { s with heap := h' }) → wpAny (model prog w) A (Builtin.SmallTypes.nextOf (.ref it)) Q E s
def PL (it l : Addr) (xs : Array Value) (k : Nat) (h : Heap) : Prop := h.IsListIter it l k ∧ h.IsList l xs
def PT2 (it l : Addr) (xs : Array Value) (k : Nat) (h : Heap) : Prop := h.IsTupleIter it l k ∧ h.IsTuple l xs
section
variable {prog : Program} {w : World} {A : Around} {E : Value → Shared → Prop} {s : Shared}
theorem pl_stay {it l : Addr} {xs : Array Value} {k : Nat} {h h' : Heap} (p : PL it l xs k h) (e : ∀ c o, c = it ∨ c = l → h.get? c = some o → h'.get? c = some o) : PL it l xs k h' := by
  obtain ⟨h1, o, ho, r⟩ := p
  exact ⟨h1.at fun o q => e it o (.inl rfl) q, ⟨o, e _ _ (.inr rfl) ho, r⟩⟩
theorem pt_stay {it l : Addr} {xs : Array Value} {k : Nat} {h h' : Heap} (p : PT2 it l xs k h) (e : ∀ c o, c = it ∨ c = l → h.get? c = some o → h'.get? c = some o) : PT2 it l xs k h' := by
  obtain ⟨h1, o, ho, r⟩ := p
  exact ⟨h1.at fun o q => e it o (.inl rfl) q, ⟨o, e _ _ (.inr rfl) ho, r⟩⟩
theorem drw_l {it l : Addr} {xs : Array Value} {k : Nat} {x : Value} (n : l ≠ it) (hx : xs[k]? = some x) : Drw prog w it l (PL it l xs k) (PL it l xs (k + 1)) x :=
  ⟨fun _ _ p e => pl_stay p e, fun _ _ p e => pl_stay p e, fun h p => by obtain ⟨⟨o, e, _⟩, _⟩ := p; exact Heap.lt_size e, fun A E s Q p q => wpAny_nextOf_list_item p.1 p.2 hx fun h' a b => q h' ⟨a, p.2.extBut b.extBut n⟩ b⟩
theorem drw_t {it l : Addr} {xs : Array Value} {k : Nat} {x : Value} (n : l ≠ it) (hx : xs[k]? = some x) : Drw prog w it l (PT2 it l xs k) (PT2 it l xs (k + 1)) x :=
  ⟨fun _ _ p e => pt_stay p e, fun _ _ p e => pt_stay p e, fun h p => by obtain ⟨⟨o, e, _⟩, _⟩ := p; exact Heap.lt_size e, fun A E s Q p q => RZ.nextOf_tuple_item p.1 p.2 hx fun h' a b => q h' ⟨a, p.2.extBut b.extBut n⟩ b⟩
theorem dry_l {it l : Addr} {xs : Array Value} {k : Nat} (hx : xs[k]? = none) : Dry prog w it l (PL it l xs k) :=
  ⟨fun _ _ p e => pl_stay p e, fun A E s Q hh p q => wpAny_nextOf_list_end hh p.1 p.2 hx q⟩
theorem dry_t {it l : Addr} {xs : Array Value} {k : Nat} (hx : xs[k]? = none) : Dry prog w it l (PT2 it l xs k) :=
  ⟨fun _ _ p e => pt_stay p e, fun A E s Q hh p q => RZ.nextOf_tuple_end hh p.1 p.2 hx q⟩
/-- what a zip's turn leaves be -/
abbrev Stands (z TO i1 i2 : Addr) (h h' : Heap) : Prop := ∀ c o, c ≠ z → c ≠ TO → c ≠ i1 → c ≠ i2 → h.get? c = some o → h'.get? c = some o
theorem zipG_item {z TI TO i1 i2 l1 l2 : Addr} {P1 P1' P2 P2' : Heap → Prop} {x y a b : Value} {Q : Option Value → Shared → Prop} (D : ZipApart z TI TO i1 i2 l1 l2) (N1 : Drw prog w i1 l1 P1 P1' x) (N2 : Drw prog w i2 l2 P2 P2' y)
    (hz : IsZip s.heap z TI TO .none) (hTI : IsPair s.heap TI (.ref i1) (.ref i2)) (hTO : IsPair s.heap TO a b) (h1 : P1 s.heap) (h2 : P2 s.heap)
    (hQ : ∀ h', IsZip h' z TI TO (rawInt s.heap.objs.size) → IsPair h' TO x y → P1' h' → P2' h' → IsPair h' s.heap.objs.size x y → h'.objs.size = s.heap.objs.size + 1 → Stands z TO i1 i2 s.heap h' → Q (some (.ref s.heap.objs.size)) { s with heap := h' }) :
    wpAny (model prog w) A (pyNext (.ref z)) Q E s := by
  have hT : s.TypeIs (.ref z) "zip" := ⟨_, hz, rfl⟩
  unfold pyNext
  refine wpAny_bind (wpAny_attempt (wpAny_callSpecial?_slot (name := Str.ofString "__next__") hT F.slot_zip_next (wpAny_call_entry F.slot_zip_next hT F.entry_zip_next ?_ (F.args_zip_next_1 _))))
  show wpAny _ _ (field (.ref z) 2 >>= _) _ _ _
  refine wpAny_bind (wpAny_field hz rfl (x := .bool false) rfl ?_)
  show wpAny _ _ (field (.ref z) 3 >>= _) _ _ _
  refine wpAny_bind (wpAny_field hz rfl (x := .ref TI) rfl (wpAny_bind (wpAny_seqItems hTI rfl ?_)))
  show wpAny _ _ (Builtin.SmallTypes.ownedTupleIsFree (.ref z) >>= _) _ _ _
  unfold Builtin.SmallTypes.ownedTupleIsFree
  refine wpAny_bind (wpAny_bind (wpAny_field hz rfl (x := .none) rfl (wpAny_pure ?_)))
  simp only [if_true]
  refine wpAny_bind (wpAny_rule (wpAny_bind (wpAny_field hz rfl (x := .ref TO) rfl (wpAny_bind (wpAny_setField_rec hz (by simp) fun g1 z1 s1 => ?_)))))
  replace z1 : IsZip g1 z TI TO .ellipsis := z1
  refine wpAny_bind ?_
  simp only [List.zipIdx_cons, List.zipIdx_nil, List.forIn_cons, List.forIn_nil]
  -- from the first
  have p1 : P1 g1 := N1.stay _ _ h1 fun c o hc e => s1.extBut c o (hc.elim (fun q => by rw [q]; exact D.i1z) fun q => by rw [q]; exact D.l1z) e
  refine wpAny_bind (wpAny_bind (wpAny_onRaise ?_))
  show wpAny _ _ (Builtin.SmallTypes.nextOf (.ref i1) >>= _) _ _ _
  refine wpAny_bind (N1.next _ _ _ _ p1 fun g2 p2 s2 => wpAny_pure ?_)
  have t2 : IsPair g2 TO a b := s2.extBut _ _ D.TOi1 (s1.extBut _ _ D.TOz hTO)
  refine wpAny_bind (wpAny_seqItems t2 rfl (wpAny_bind (wpAny_updateSeq_pair t2 fun g3 t3 s3 => ?_)))
  replace t3 : IsPair g3 TO x b := t3
  refine wpAny_bind (wpAny_letGo (wpAny_pure ?_))
  -- from the second
  have q3 : P2 g3 := N2.stay _ _ h2 fun c o hc e => by
    have c1 : c ≠ z := hc.elim (fun q => by rw [q]; exact D.i2z) fun q => by rw [q]; exact D.l2z
    have c2 : c ≠ i1 := hc.elim (fun q => by rw [q]; exact D.i12.symm) fun q => by rw [q]; exact D.l2i1
    have c3 : c ≠ TO := hc.elim (fun q => by rw [q]; exact D.TOi2.symm) fun q => by rw [q]; exact D.l2TO
    exact s3.extBut c o c3 (s2.extBut c o c2 (s1.extBut c o c1 e))
  refine wpAny_bind (wpAny_bind (wpAny_onRaise ?_))
  show wpAny _ _ (Builtin.SmallTypes.nextOf (.ref i2) >>= _) _ _ _
  refine wpAny_bind (N2.next _ _ _ _ q3 fun g4 q4 s4 => wpAny_pure ?_)
  have t4 : IsPair g4 TO x b := s4.extBut _ _ D.TOi2 t3
  refine wpAny_bind (wpAny_seqItems t4 rfl (wpAny_bind (wpAny_updateSeq_pair t4 fun g5 t5 s5 => ?_)))
  replace t5 : IsPair g5 TO x y := t5
  refine wpAny_bind (wpAny_letGo (wpAny_pure (wpAny_pure ?_)))
  -- the pair
  refine wpAny_bind (wpAny_seqItems t5 rfl (wpAny_bind (wpAny_newTuple ?_)))
  have sz : g5.objs.size = s.heap.objs.size := by rw [s5.1, s4.1, s3.1, s2.1, s1.1]
  have z5 : IsZip g5 z TI TO .ellipsis := s5.extBut _ _ D.TOz.symm (s4.extBut _ _ D.i2z.symm (s3.extBut _ _ D.TOz.symm (s2.extBut _ _ D.i1z.symm z1)))
  have k5 : Stands z TO i1 i2 s.heap g5 := fun c o c1 c2 c3 c4 e => s5.extBut _ _ c2 (s4.extBut _ _ c4 (s3.extBut _ _ c2 (s2.extBut _ _ c3 (s1.extBut _ _ c1 e))))
  have p5 : P1' g5 := N1.stay' _ _ p2 fun c o hc e => by
    have c2 : c ≠ TO := hc.elim (fun q => by rw [q]; exact D.TOi1.symm) fun q => by rw [q]; exact D.l1TO
    have c3 : c ≠ i2 := hc.elim (fun q => by rw [q]; exact D.i12) fun q => by rw [q]; exact D.l1i2
    exact s5.extBut _ _ c2 (s4.extBut _ _ c3 (s3.extBut _ _ c2 e))
  have q5 : P2' g5 := N2.stay' _ _ q4 fun c o hc e => s5.extBut c o (hc.elim (fun q => by rw [q]; exact D.TOi2.symm) fun q => by rw [q]; exact D.l2TO) e
  have zl : z < g5.objs.size := Heap.lt_size z5
  show wpAny _ _ (Builtin.SmallTypes.ownedTupleHandOut (.ref z) (.ref g5.objs.size) >>= _) _ _ _
  unfold Builtin.SmallTypes.ownedTupleHandOut
  have z6 : IsZip (g5.push { cls := .type "tuple", data := .seq #[x, y] }) z TI TO .ellipsis := Heap.get?_push_of_some _ z5
  refine wpAny_bind (wpAny_bind (wpAny_setField_rec z6 (by simp) fun g7 z7 s7 => ?_))
  replace z7 : IsZip g7 z TI TO (rawInt g5.objs.size) := z7
  refine wpAny_setField_rec z7 (by simp) fun g8 z8 s8 => ?_
  replace z8 : IsZip g8 z TI TO (rawInt g5.objs.size) := z8
  have up : ∀ c o, c ≠ z → g5.get? c = some o → g8.get? c = some o := fun c o c1 e => s8.extBut _ _ c1 (s7.extBut _ _ c1 (Heap.get?_push_of_some _ e))
  have t8 : IsPair g8 g5.objs.size x y := s8.extBut _ _ (Nat.ne_of_gt zl) (s7.extBut _ _ (Nat.ne_of_gt zl) (Heap.get?_push_size _ rfl))
  have sz8 : g8.objs.size = g5.objs.size + 1 := by rw [s8.1, s7.1, Heap.size_push]
  rw [sz] at z8 t8 sz8
  refine wpAny_pure ⟨_, rfl, wpAny_pure ?_⟩
  show Q (some (.ref g5.objs.size)) _
  rw [sz]
  refine hQ g8 z8 (up _ _ D.TOz t5) (N1.stay' _ _ p5 fun c o hc e => up c o (hc.elim (fun q => by rw [q]; exact D.i1z) fun q => by rw [q]; exact D.l1z) e) (N2.stay' _ _ q5 fun c o hc e => up c o (hc.elim (fun q => by rw [q]; exact D.i2z) fun q => by rw [q]; exact D.l2z) e) t8 sz8 fun c o c1 c2 c3 c4 e => up c o c1 (k5 c o c1 c2 c3 c4 e)
theorem zipG_end {z TI TO i1 i2 l1 l2 : Addr} {P1 P1' P2 : Heap → Prop} {a b x : Value} {Q : Option Value → Shared → Prop} (hh : A.handled = none) (D : ZipApart z TI TO i1 i2 l1 l2) (N : Dry prog w i1 l1 P1 ∨ Drw prog w i1 l1 P1 P1' x ∧ Dry prog w i2 l2 P2)
    (hz : IsZip s.heap z TI TO .none) (hTI : IsPair s.heap TI (.ref i1) (.ref i2)) (hTO : IsPair s.heap TO a b) (h1 : P1 s.heap) (h2 : P2 s.heap)
    (hQ : ∀ h', Stands z TO i1 i2 s.heap h' → Q none { s with heap := h' }) : wpAny (model prog w) A (pyNext (.ref z)) Q E s := by
  have hT : s.TypeIs (.ref z) "zip" := ⟨_, hz, rfl⟩
  unfold pyNext
  have last : ∀ (h' : Heap) (e : Addr), Stands z TO i1 i2 s.heap h' → (∃ o, h'.get? e = some o ∧ o.cls = .type "StopIteration") →
      wpAny (model prog w) A (match (Except.error (.ref e) : Except Value (Option Value)) with
        | .ok (some v) => pure (some v)
        | .ok none => unsupported "iter:the-iterator's-class-has-no-__next__"
        | .error e => do if ← isInstance e (.type "StopIteration") then pure none else throw e) Q E { s with heap := h' } := fun h' e k he => by
    obtain ⟨o, ho, hc⟩ := he
    refine wpAny_bind (wpAny_isInstance (T := "StopIteration") (b := true) ⟨o, ho, hc⟩ isSubtype_stop ?_)
    exact wpAny_pure (hQ _ k)
  refine wpAny_bind (wpAny_attempt (wpAny_callSpecial?_slot (name := Str.ofString "__next__") hT F.slot_zip_next (wpAny_call_entry F.slot_zip_next hT F.entry_zip_next ?_ (F.args_zip_next_1 _))))
  show wpAny _ _ (field (.ref z) 2 >>= _) _ _ _
  refine wpAny_bind (wpAny_field hz rfl (x := .bool false) rfl ?_)
  show wpAny _ _ (field (.ref z) 3 >>= _) _ _ _
  refine wpAny_bind (wpAny_field hz rfl (x := .ref TI) rfl (wpAny_bind (wpAny_seqItems hTI rfl ?_)))
  show wpAny _ _ (Builtin.SmallTypes.ownedTupleIsFree (.ref z) >>= _) _ _ _
  unfold Builtin.SmallTypes.ownedTupleIsFree
  refine wpAny_bind (wpAny_bind (wpAny_field hz rfl (x := .none) rfl (wpAny_pure ?_)))
  simp only [if_true]
  refine wpAny_bind (wpAny_rule (wpAny_bind (wpAny_field hz rfl (x := .ref TO) rfl (wpAny_bind (wpAny_setField_rec hz (by simp) fun g1 z1 s1 => ?_)))))
  replace z1 : IsZip g1 z TI TO .ellipsis := z1
  refine wpAny_bind ?_
  simp only [List.zipIdx_cons, List.zipIdx_nil, List.forIn_cons, List.forIn_nil]
  have to1 : ∀ c o, c = i1 ∨ c = l1 → s.heap.get? c = some o → g1.get? c = some o := fun c o hc e => s1.extBut c o (hc.elim (fun q => by rw [q]; exact D.i1z) fun q => by rw [q]; exact D.l1z) e
  refine wpAny_bind (wpAny_bind (wpAny_onRaise ?_))
  show wpAny _ _ (Builtin.SmallTypes.nextOf (.ref i1) >>= _) _ _ _
  rcases N with N1 | ⟨N1, N2⟩
  · refine wpAny_bind (N1.fin _ _ _ _ hh (N1.stay _ _ h1 to1) fun g2 e s2 he => ?_)
    obtain ⟨oe, hoe, hce⟩ := he
    have z2 : IsZip g2 z TI TO .ellipsis := s2 _ _ D.i1z.symm z1
    have hez : e ≠ z := fun x => by subst x; rw [z2] at hoe; cases hoe; simp at hce
    refine wpAny_setField_rec z2 (by simp) fun g3 _ s3 => last g3 e (fun c o c1 _ c3 _ x => s3.extBut _ _ c1 (s2 _ _ c3 (s1.extBut _ _ c1 x))) ⟨oe, s3.extBut _ _ hez hoe, hce⟩
  · refine wpAny_bind (N1.next _ _ _ _ (N1.stay _ _ h1 to1) fun g2 p2 s2 => wpAny_pure ?_)
    have t2 : IsPair g2 TO a b := s2.extBut _ _ D.TOi1 (s1.extBut _ _ D.TOz hTO)
    refine wpAny_bind (wpAny_seqItems t2 rfl (wpAny_bind (wpAny_updateSeq_pair t2 fun g3 t3 s3 => ?_)))
    refine wpAny_bind (wpAny_letGo (wpAny_pure ?_))
    have q3 : P2 g3 := N2.stay _ _ h2 fun c o hc e => by
      have c1 : c ≠ z := hc.elim (fun q => by rw [q]; exact D.i2z) fun q => by rw [q]; exact D.l2z
      have c2 : c ≠ i1 := hc.elim (fun q => by rw [q]; exact D.i12.symm) fun q => by rw [q]; exact D.l2i1
      have c3 : c ≠ TO := hc.elim (fun q => by rw [q]; exact D.TOi2.symm) fun q => by rw [q]; exact D.l2TO
      exact s3.extBut c o c3 (s2.extBut c o c2 (s1.extBut c o c1 e))
    refine wpAny_bind (wpAny_bind (wpAny_onRaise ?_))
    show wpAny _ _ (Builtin.SmallTypes.nextOf (.ref i2) >>= _) _ _ _
    refine wpAny_bind (N2.fin _ _ _ _ hh q3 fun g4 e s4 he => ?_)
    obtain ⟨oe, hoe, hce⟩ := he
    have z4 : IsZip g4 z TI TO .ellipsis := s4 _ _ D.i2z.symm (s3.extBut _ _ D.TOz.symm (s2.extBut _ _ D.i1z.symm z1))
    have hez : e ≠ z := fun x => by subst x; rw [z4] at hoe; cases hoe; simp at hce
    refine wpAny_setField_rec z4 (by simp) fun g5 _ s5 => last g5 e (fun c o c1 c2 c3 c4 x => s5.extBut _ _ c1 (s4 _ _ c4 (s3.extBut _ _ c2 (s2.extBut _ _ c3 (s1.extBut _ _ c1 x))))) ⟨oe, s5.extBut _ _ hez hoe, hce⟩
end
/-! ### zip(xs, ys) made, xs a list, ys a tuple -/
def zH1 (h : Heap) (l1 : Addr) : Heap := h.push { cls := .type "list_iterator", data := .fields #[.ref l1, .int 0 0] }
def zH2 (h : Heap) (l1 l2 : Addr) : Heap := (zH1 h l1).push { cls := .type "tuple_iterator", data := .fields #[.ref l2, .int 0 0] }
def zH3 (h : Heap) (l1 l2 : Addr) : Heap := (zH2 h l1 l2).push { cls := .type "tuple", data := .seq #[.ref h.objs.size, .ref (zH1 h l1).objs.size] }
def zH4 (h : Heap) (l1 l2 : Addr) : Heap := (zH3 h l1 l2).push { cls := .type "tuple", data := .seq #[.none, .none] }
def zH5 (h : Heap) (l1 l2 : Addr) : Heap := (zH4 h l1 l2).push { cls := .type "zip", data := .fields #[.none, .bool false, .bool false, .ref (zH2 h l1 l2).objs.size, .ref (zH3 h l1 l2).objs.size] }
theorem meets_zipLT (l1 l2 : Addr) (xs ys : Array Value) : Meets (Builtin.«zip.__new__» ⟨[.type "zip", .ref l1, .ref l2], []⟩) (fun _ R s => s.heap.IsList l1 xs ∧ s.heap.IsTuple l2 ys ∧ R (.ok (.ret (.ref (zH4 s.heap l1 l2).objs.size))) { s with heap := zH5 s.heap l1 l2 }) :=
  .of_wp fun prog w A R s h => by
    obtain ⟨hp, g, d, tk, os⟩ := s
    obtain ⟨hl1, hl2, h⟩ := h
    have hsub := sub_zip
    have hL1 : Heap.IsList (Shared.heap ⟨hp, g, d, tk, os⟩) l1 xs := hl1
    have hL2 : Heap.IsTuple (Shared.heap ⟨hp.push { cls := .type "list_iterator", data := .fields #[.ref l1, .int 0 0] }, g, d, tk, os⟩) l2 ys := Heap.IsTuple.push hl2 _
    wp_walk using wpAny_pyIter_list hL1, wpAny_pyIter_tuple hL2
    exact ⟨_, rfl, h⟩
section
variable {prog : Program} {w : World} {A : Around} {E : Value → Shared → Prop} {s : Shared}
theorem call_zipLT {l1 l2 : Addr} {xs ys : Array Value} {Q : Value → Shared → Prop} (hl1 : s.heap.IsList l1 xs) (hl2 : s.heap.IsTuple l2 ys)
    (h : ∀ h', IsZip h' (s.heap.objs.size + 4) (s.heap.objs.size + 2) (s.heap.objs.size + 3) .none → IsPair h' (s.heap.objs.size + 2) (.ref s.heap.objs.size) (.ref (s.heap.objs.size + 1)) →
      IsPair h' (s.heap.objs.size + 3) .none .none → h'.IsListIter s.heap.objs.size l1 0 → h'.IsTupleIter (s.heap.objs.size + 1) l2 0 → (∀ c o, s.heap.get? c = some o → h'.get? c = some o) → Q (.ref (s.heap.objs.size + 4)) { s with heap := h' }) :
    wpAny (model prog w) A (call (.type "zip") [.ref l1, .ref l2]) Q E s := by
  refine callType_new F.called_zip (by decide) (F.typeCall_zip_2 _ _) (F.newCall_zip_2 _ _) (fun obj => F.args_object_init_3 obj _ _) F.entry_zip_new (meets_zipLT l1 l2 xs ys) ⟨hl1, hl2, ?_⟩
  have e1 : (zH1 s.heap l1).objs.size = s.heap.objs.size + 1 := Heap.size_push ..
  have e2 : (zH2 s.heap l1 l2).objs.size = s.heap.objs.size + 2 := by rw [zH2, Heap.size_push, e1]
  have e3 : (zH3 s.heap l1 l2).objs.size = s.heap.objs.size + 3 := by rw [zH3, Heap.size_push, e2]
  have e4 : (zH4 s.heap l1 l2).objs.size = s.heap.objs.size + 4 := by rw [zH4, Heap.size_push, e3]
  have u2 : ∀ {c o}, (zH1 s.heap l1).get? c = some o → (zH2 s.heap l1 l2).get? c = some o := fun e => Heap.get?_push_of_some _ e
  have u3 : ∀ {c o}, (zH2 s.heap l1 l2).get? c = some o → (zH3 s.heap l1 l2).get? c = some o := fun e => Heap.get?_push_of_some _ e
  have u4 : ∀ {c o}, (zH3 s.heap l1 l2).get? c = some o → (zH4 s.heap l1 l2).get? c = some o := fun e => Heap.get?_push_of_some _ e
  have u5 : ∀ {c o}, (zH4 s.heap l1 l2).get? c = some o → (zH5 s.heap l1 l2).get? c = some o := fun e => Heap.get?_push_of_some _ e
  have g1 : (zH5 s.heap l1 l2).get? s.heap.objs.size = some _ := u5 (u4 (u3 (u2 (Heap.get?_push_size _ rfl))))
  have g2 : (zH5 s.heap l1 l2).get? (zH1 s.heap l1).objs.size = some _ := u5 (u4 (u3 (Heap.get?_push_size _ rfl)))
  have g3 : (zH5 s.heap l1 l2).get? (zH2 s.heap l1 l2).objs.size = some _ := u5 (u4 (Heap.get?_push_size _ rfl))
  have g4 : (zH5 s.heap l1 l2).get? (zH3 s.heap l1 l2).objs.size = some _ := u5 (Heap.get?_push_size _ rfl)
  have g5 : (zH5 s.heap l1 l2).get? (zH4 s.heap l1 l2).objs.size = some _ := Heap.get?_push_size _ rfl
  rw [e1] at g2
  rw [e1, e2] at g3
  rw [e3] at g4
  rw [e2, e3, e4] at g5
  rw [e4]
  exact ⟨⟨_, g5, rfl⟩, h _ g5 g3 g4 ⟨_, g1, rfl, rfl⟩ ⟨_, g2, rfl, rfl⟩ fun c o x => u5 (u4 (u3 (u2 (Heap.get?_push_of_some _ x))))⟩
end
/-! ### its walk -/
def ItzM (K : PySem.W.Frag) (a b : Addr) : It :=
  ⟨fun i H => ∃ (xs ys : List V) (x y : V), SqL K H a xs ∧ SqT K H b ys ∧ xs[i]? = some x ∧ ys[i]? = some y,
    fun i H v H' => ∃ T x y, v = .ref T ∧ H T = none ∧ H' = upd H T (.tup [x, y]) ∧ (∀ xs, SqL K H a xs → xs[i]? = some x) ∧ ∀ ys, SqT K H b ys → ys[i]? = some y,
    fun i H => ∃ xs ys : List V, SqL K H a xs ∧ SqT K H b ys ∧ (xs.length ≤ i ∨ ys.length ≤ i)⟩
theorem turn_zipM {P : Program} {w : World} {K : PySem.W.Frag} {elts : List Expr} {kk : Nat} {tpos : Pos} {a b z TI TO i1 i2 : Addr} (D : ZipApart z TI TO i1 i2 a b) :
    Turn P w K (.Tuple elts kk tpos) (ItzM K a b) [z, TI, TO, i1, i2] z (fun i h => IsZip h z TI TO .none ∧ IsPair h TI (.ref i1) (.ref i2) ∧ (∃ x y, IsPair h TO x y) ∧ h.IsListIter i1 a i ∧ h.IsTupleIter i2 b i) where
  mem := by simp
  obj := fun i h st c hc => by
    obtain ⟨hz, hTI, ⟨x, y, hTO⟩, ⟨o1, e1, _, d1⟩, ⟨o2, e2, _, d2⟩⟩ := st
    have e' : c = z ∨ c = TI ∨ c = TO ∨ c = i1 ∨ c = i2 := by simpa using hc
    rcases e' with q | q | q | q | q
    · rw [q]; exact ⟨_, hz, fun v q => nomatch q⟩
    · rw [q]; exact ⟨_, hTI, fun v q => nomatch q⟩
    · rw [q]; exact ⟨_, hTO, fun v q => nomatch q⟩
    · rw [q]; exact ⟨o1, e1, fun v q => by rw [d1] at q; cases q⟩
    · rw [q]; exact ⟨o2, e2, fun v q => by rw [d2] at q; cases q⟩
  keep := fun i h h' st k => by
    obtain ⟨hz, hTI, ⟨x, y, hTO⟩, h1, h2⟩ := st
    exact ⟨k z (by simp) _ hz, k TI (by simp) _ hTI, ⟨x, y, k TO (by simp) _ hTO⟩, h1.at fun o q => k i1 (by simp) o q, h2.at fun o q => k i2 (by simp) o q⟩
  item := by
    intro X hP hw hK hc i pins s σ H E I hf st hg
    subst hP hw hK
    obtain ⟨hz, hTI, ⟨x0, y0, hTO⟩, h1, h2⟩ := st
    obtain ⟨xs, ys, x, y, hqx, hqy, hx, hy⟩ := hg
    obtain ⟨its, rv, p, _⟩ := I.list hqx
    obtain ⟨its2, rv2, p2, _⟩ := I.tuple hqy
    obtain ⟨u, hu, ru⟩ := rv.get hx
    obtain ⟨u2, hu2, ru2⟩ := rv2.get hy
    have hzl : z < s.heap.objs.size := Heap.lt_size hz
    refine zipG_item D (drw_l (x := u) D.l1i1 (by simpa using hu)) (drw_t (x := u2) D.l2i2 (by simpa using hu2)) hz hTI hTO ⟨h1, p.isList⟩ ⟨h2, p2⟩ fun h' z' TO' q1 q2 hT hsz hk => ?_
    refine ⟨_, rfl, wpAny_letOwnedTupleGo_zip (s := { s with heap := h' }) z' fun h'' z'' sb => ?_⟩
    have new : ObjOk X.prog X.w (upd H s.heap.objs.size (.tup [x, y])) h'' s.heap.objs.size (.tup [x, y]) :=
      ⟨by show 2 ≤ sizeLine; decide, [u, u2], .cons ru (.cons ru2 .nil), ⟨_, (sb.2 _ (Nat.ne_of_gt hzl)).trans hT, rfl, _, rfl⟩⟩
    have I1 : Inv X pins σ (upd H s.heap.objs.size (.tup [x, y])) { s with heap := h'' } :=
      I.turnedNew (t' := s.toks) (ch := [z, TI, TO, i1, i2]) (fun c o hb q => (sb.2 c (fun q' => hb (by simp [q']))).trans (hk c o (fun q' => hb (by simp [q'])) (fun q' => hb (by simp [q'])) (fun q' => hb (by simp [q'])) (fun q' => hb (by simp [q'])) q)) hf (Nat.le_refl _) new
    refine ⟨.ref s.heap.objs.size, _, I1, rfl, ⟨_, x, y, rfl, I.hok.fresh (Nat.le_refl _), rfl, fun l hl => by rw [I.list_inj hl hqx]; exact hx, fun l hl => by rw [I.tuple_inj hl hqy]; exact hy⟩, ⟨z'', ?_, ⟨u, u2, ?_⟩, ?_, ?_⟩, fun c hcm => ?_⟩
    · exact (sb.2 _ D.TIz).trans (hk _ _ D.TIz D.TITO D.TIi1 D.TIi2 hTI)
    · exact (sb.2 _ D.TOz).trans TO'
    · exact q1.1.at fun o q => (sb.2 _ D.i1z).trans q
    · exact q2.1.at fun o q => (sb.2 _ D.i2z).trans q
    · have hlt : c < s.heap.objs.size := by
        have e' : c = z ∨ c = TI ∨ c = TO ∨ c = i1 ∨ c = i2 := by simpa using hcm
        rcases e' with q | q | q | q | q
        · rw [q]; exact hzl
        · rw [q]; exact Heap.lt_size hTI
        · rw [q]; exact Heap.lt_size hTO
        · rw [q]; obtain ⟨_, e1, _⟩ := h1; exact Heap.lt_size e1
        · rw [q]; obtain ⟨_, e2, _⟩ := h2; exact Heap.lt_size e2
      rw [upd_ne (Nat.ne_of_lt hlt)]
      exact (hf c hcm).1
  done := by
    intro X hP hw hK hc i pins s σ H E I hf st hg
    subst hP hw hK
    obtain ⟨hz, hTI, ⟨x0, y0, hTO⟩, h1, h2⟩ := st
    obtain ⟨xs, ys, hqx, hqy, hend⟩ := hg
    obtain ⟨its, rv, p, _⟩ := I.list hqx
    obtain ⟨its2, rv2, p2, _⟩ := I.tuple hqy
    have l1 := rv.length
    have l2 := rv2.length
    have fin : ∀ h' : Heap, Stands z TO i1 i2 s.heap h' → _ := fun h' hk => I.turnedL (t' := s.toks) (ch := [z, TI, TO, i1, i2]) (fun c o hb q => hk c o (fun q' => hb (by simp [q'])) (fun q' => hb (by simp [q'])) (fun q' => hb (by simp [q'])) (fun q' => hb (by simp [q'])) q) hf
    cases hx : its.toArray[i]? with
    | none => exact zipG_end (P1' := fun _ => True) (x := .none) (I.ok.hd hc) D (.inl (dry_l hx)) hz hTI hTO ⟨h1, p.isList⟩ (P2 := PT2 i2 b its2.toArray i) ⟨h2, p2⟩ fun h' hk => ⟨rfl, fin h' hk⟩
    | some u =>
      have hy : its2.toArray[i]? = none := by
        have hxl : i < its.length := by
          have := (Array.getElem?_eq_some_iff.mp hx).1
          simpa using this
        rcases hend with q | q
        · exact absurd hxl (by omega)
        · simp
          omega
      exact zipG_end (I.ok.hd hc) D (.inr ⟨drw_l D.l1i1 hx, dry_t hy⟩) hz hTI hTO ⟨h1, p.isList⟩ ⟨h2, p2⟩ fun h' hk => ⟨rfl, fin h' hk⟩
  self := fun A i s Q E st h => wpAny_pyIter_zip st.1 h
def iZipM (K : PySem.W.Frag) (ta : TA) : TI := fun σ H R => ta σ H fun vs H1 => ∃ a b xs ys, vs = [.ref a, .ref b] ∧ SqL K H1 a xs ∧ SqT K H1 b ys ∧ R (ItzM K a b) H1
theorem pi_zipM {X : Cx} {e e2 : Expr} {ta : TA} {p pos tpos : Pos} {elts : List Expr} {kk : Nat} (hg : Gl X "zip") (hm : X.mg "zip" = none) (ha : PA X [e, e2] ta)
    (hs : starEach [e, e2] X.env = (false, eval e X.env) :: starEach [e2] X.env := by rfl) (hpl : (backTo pos (starEach [e2] X.env)).any (·.1) = false := by rfl) :
    PI X (.Tuple elts kk tpos) (.Call (.Name "zip" p) [e, e2] [] pos) (iZipM X.K ta) := by
  refine ⟨fun pins s σ H R I h => ?_⟩
  refine Call_ (ld_blt I hg hm PyProof.Rows.boot_zip (PyProof.Rows.callWith_type1 (thn (ha.run pos pins s σ H _ I h) fun us s1 ⟨vs, H1, I1, r1, a, b, xs, ys, ex, hqx, hqy, q⟩ => ?_) hs hpl))
  subst ex
  obtain ⟨ua, ub, rfl, ra, rb⟩ := vals2 r1
  cases ra
  cases rb
  obtain ⟨its, rv, p1, _⟩ := I1.list hqx
  obtain ⟨its2, rv2, p2, _⟩ := I1.tuple hqy
  have lb : b < s1.heap.objs.size := by
    obtain ⟨o2, ho2, _⟩ := id p2
    exact Heap.lt_size ho2
  refine call_zipLT p1.isList (show s1.heap.IsTuple b its2.toArray from p2) fun h' hz hTI hTO h1 h2 hk => wpAny_pyIter_zip hz ?_
  have I2 : Inv X pins σ H1 { s1 with heap := h' } := I1.kept (t' := s1.toks) hk
  refine ⟨s1.heap.objs.size + 4, [s1.heap.objs.size + 4, s1.heap.objs.size + 2, s1.heap.objs.size + 3, s1.heap.objs.size, s1.heap.objs.size + 1], _, _, H1, rfl, I2, turn_zipM (PySem.W.ktu_apart s1.heap.objs.size a b p1.lt lb), ⟨hz, hTI, ⟨_, _, hTO⟩, h1, h2⟩, fun c hcm => ?_, q⟩
  have e' : c = s1.heap.objs.size + 4 ∨ c = s1.heap.objs.size + 2 ∨ c = s1.heap.objs.size + 3 ∨ c = s1.heap.objs.size ∨ c = s1.heap.objs.size + 1 := by simpa using hcm
  have hle : s1.heap.objs.size ≤ c := by
    have z : ∃ n, c = s1.heap.objs.size + n := by
      rcases e' with z | z | z | z | z
      · exact ⟨4, z⟩
      · exact ⟨2, z⟩
      · exact ⟨3, z⟩
      · exact ⟨0, z⟩
      · exact ⟨1, z⟩
    obtain ⟨n, z⟩ := z
    rw [z]
    exact Nat.le_add_right _ _
  exact I1.fpOk hle (I1.hok.fresh hle)
section
variable {K : Zx} {β : Bx} {H : Hp}
theorem itd_zm {a b : Addr} {xs ys : List V} {l m : List D} (h : ∀ β' H', Mv β H β' H' → SqL K H' a xs) (h' : SqT K H b ys) (r : Reps K β H xs l) (r' : Reps K β H ys m) : ItD K β H (ItzM K a b) (zipD l m) where
  go := fun β' H' i e hi => by
    rw [zipD_len] at hi
    exact ⟨xs, ys, xs[i]'(by rw [r.length]; omega), ys[i]'(by rw [r'.length]; omega), h β' H' e, e.sqT h', List.getElem?_eq_getElem _, List.getElem?_eq_getElem _⟩
  yld := fun β' H' i x H'' d e hd hy => by
    obtain ⟨T, x1, y1, rfl, nT, rfl, f1, f2⟩ := hy
    obtain ⟨dx, dy, rfl, g1, g2⟩ := zipD_get hd
    obtain ⟨v, hv, rv⟩ := r.get g1
    obtain ⟨v', hv', rv'⟩ := r'.get g2
    have e1 := f1 xs (h β' H' e)
    have e2 := f2 ys (e.sqT h')
    rw [hv] at e1
    rw [hv'] at e2
    have e1 := Option.some.inj e1
    have e2 := Option.some.inj e2
    subst e1 e2
    have e3 := e.trans (Ext.new (β := β') (o := .tup [v, v']) nT).mv
    exact ⟨same_new nT, .tup (.inl (.inl upd_same)) (.cons (Rep.move e3 _ _ rv) (.cons (Rep.move e3 _ _ rv') .nil)) (le1000 (by simp))⟩
  stop := fun β' H' i e hi => by
    rw [zipD_len] at hi
    refine ⟨xs, ys, h β' H' e, e.sqT h', ?_⟩
    rw [r.length, r'.length]
    omega
end
def mZipM : List D → Option (List D)
  | [.lst a, .tup b] => some (zipD a b)
  | _ => none
def gZipM (f : G (List D)) : G (List D) := fun ρ st => (f ρ st).bind fun d s1 => oout (mZipM d) s1
section
variable {X : Cx} {W : WX}
theorem di_zipM {e e2 : Expr} {fs : G (List D)} {elts : List Expr} {kk : Nat} {tpos p pos : Pos} (hg : Gl X "zip") (hm : X.mg "zip" = none) (ha : DA X W [e, e2] fs) (hs : starEach [e, e2] X.env = (false, eval e X.env) :: starEach [e2] X.env := by rfl) (hpl : (backTo pos (starEach [e2] X.env)).any (·.1) = false := by rfl) :
    DI X W (.Tuple elts kk tpos) (.Call (.Name "zip" p) [e, e2] [] pos) (gZipM fs) := by
  refine PImono (pi_zipM hg hm ha hs hpl) fun σ H R h => ?_
  obtain ⟨β, ρ, st, hρ, hs, h⟩ := h
  refine tDA_intro hρ hs (Out.sat_bind h) (fun d s1 h1 v β1 H1 e1 S1 r1 => ?_) fun _ _ q => q
  obtain ⟨l, q, p⟩ := oout_sat h1
  unfold mZipM at q
  split at q
  · rename_i a b
    cases q
    obtain ⟨v, w, rfl, r, r'⟩ := r1.two
    cases r with
    | lst h1 hn h2 h3 =>
      cases r' with
      | tup g1 g2 g3 => exact ⟨_, _, _, _, rfl, SqL.of h1, g1, p _ β1 H1 e1 S1 (itd_zm (fun β' H' e => SqL.of (e.lst _ _ h1 hn).1) g1 h2 g2) (by rw [zipD_len]; omega)⟩
  · cases q
end
end DL

set_option Elab.async false
set_option linter.all false
set_option maxRecDepth 100000
set_option maxHeartbeats 4000000
/-! # A tuple none or one time over; stores into written dicts by a pair; list(dict), sorted(ints) -/
namespace DL
open PySem PySem.Spec L2
open PyProof.Rows hiding St
theorem tuple_mul1 (l : Addr) (items : Array Value) (n : Nat) (dd : Option Addr) (sl : Array (Option Value)) (u : Tok) :
    Meets (Builtin.«tuple.__mul__» ⟨[.ref l, .int 1 u], []⟩) (fun _ R s => s.heap.get? l = some { cls := .type "tuple", dict := dd, data := .seq items n, slots := sl } ∧ R (.ok (.ret (Value.ref l))) s) :=
  .of_wp fun prog w A R s h => by
    obtain ⟨hp, g, d, tk, os⟩ := s
    obtain ⟨hl, h⟩ := h
    have f1 := AutoSeq1.idx_int
    have c1 : (items.isEmpty || (1 : Int) == 1) = true := by simp
    wp_walk using wpAny_loadPart' hl
    repeat (first
      | (refine wpAny_ite_false (decide_eq_false (by decide)) ?_; wp_walk using wpAny_loadPart' hl)
      | (refine wpAny_ite_true (decide_eq_true c1) ?_; wp_walk using wpAny_loadPart' hl))
    exact ⟨_, rfl, h⟩
theorem tuple_mul0 (l : Addr) (items : Array Value) (n : Nat) (dd : Option Addr) (sl : Array (Option Value)) (u : Tok) (h0 : items.isEmpty = false) :
    Meets (Builtin.«tuple.__mul__» ⟨[.ref l, .int 0 u], []⟩) (fun _ R s => s.heap.get? l = some { cls := .type "tuple", dict := dd, data := .seq items n, slots := sl } ∧ R (.ok (.ret (Value.ref s.heap.objs.size))) { s with heap := s.heap.push { cls := Value.type "tuple", data := Data.seq #[] }, toks := s.toks }) :=
  .of_wp fun prog w A R s h => by
    obtain ⟨hp, g, d, tk, os⟩ := s
    obtain ⟨hl, h⟩ := h
    have f1 := AutoSeq1.idx_int
    have c1 : (items.isEmpty || (0 : Int) == 1) = false := by rw [h0]; rfl
    have c2 : (decide ((0 : Int) ≤ 0) || items.isEmpty) = true := by simp
    wp_walk using wpAny_loadPart' hl
    repeat (first
      | (refine wpAny_ite_false (decide_eq_false (by decide)) ?_; wp_walk using wpAny_loadPart' hl)
      | (refine wpAny_ite_false (decide_eq_false (by rw [c1]; exact Bool.false_ne_true)) ?_; wp_walk using wpAny_loadPart' hl)
      | (refine wpAny_ite_true (decide_eq_true c2) ?_; wp_walk using wpAny_loadPart' hl))
    exact ⟨_, rfl, h⟩
def rRep01 (K : PySem.W.Frag) : R2 := fun x y H Q => ∃ l k xs, x = .ref l ∧ y = .int k ∧ SqT K H l xs ∧ xs ≠ [] ∧ ((k = 1 ∧ Q (.ref l) H) ∨ (k = 0 ∧ ∀ p, H p = none → Q (.ref p) (upd H p (.tup []))))
abbrev rRepA (K : PySem.W.Frag) : R2 := fun x y H Q => rRepT K x y H Q ∨ rRep01 K x y H Q
section
variable {X : Cx}
theorem op_rep01 : OpR X (binaryOp .Mult) (rRep01 X.K) := by
  intro pins s σ H x y v u Q I rx ry h
  obtain ⟨l, k, xs, rfl, rfl, hT, hne, q⟩ := h
  cases rx
  obtain ⟨t, rfl⟩ := ry
  obtain ⟨its, r, ⟨⟨cls, dd, data, sl⟩, ho, hc, n, hd⟩, hs⟩ := I.tuple hT
  simp only at hc hd
  subst hc hd
  have hi : its.toArray.isEmpty = false := by
    cases its with
    | nil =>
      cases r
      exact absurd rfl hne
    | cons a b => rfl
  rcases q with ⟨rfl, q⟩ | ⟨rfl, q⟩
  · exact wpAny_binaryOp_repeat_ref (T := "tuple") (U := "int") (by decide) ⟨_, ho, rfl⟩ (fun s' => typeIs_int s' _ t) noFill_tuple_mul F.fills_int_mul F.slot_int_rmul repeat_tuple F.slot_int_index.lookup
      (call_meets F.slot_int_rmul (typeIs_int s _ t) F.entry_int_rmul (F.args_int_rmul_2 _ _) (int_rmul_tuple _ t l its.toArray n dd sl)
        ⟨ho, rfl, ⟨_, ho, rfl⟩, call_meets F.slot_tuple_mul ⟨_, ho, rfl⟩ F.entry_tuple_mul (F.args_tuple_mul_2 _ _) (tuple_mul1 l its.toArray n dd sl t) ⟨ho, .ref l, H, I, rfl, q⟩⟩)
  · exact wpAny_binaryOp_repeat_ref (T := "tuple") (U := "int") (by decide) ⟨_, ho, rfl⟩ (fun s' => typeIs_int s' _ t) noFill_tuple_mul F.fills_int_mul F.slot_int_rmul repeat_tuple F.slot_int_index.lookup
      (call_meets F.slot_int_rmul (typeIs_int s _ t) F.entry_int_rmul (F.args_int_rmul_2 _ _) (int_rmul_tuple _ t l its.toArray n dd sl)
        ⟨ho, rfl, ⟨_, ho, rfl⟩, call_meets F.slot_tuple_mul ⟨_, ho, rfl⟩ F.entry_tuple_mul (F.args_tuple_mul_2 _ _) (tuple_mul0 l its.toArray n dd sl t hi) ⟨ho,
          .ref s.heap.objs.size, _, I.laid (t' := s.toks) (o := .tup []) (fun b ob q => Heap.get?_push_of_some _ q) (Nat.le_refl _) ⟨by show 0 ≤ sizeLine; exact Nat.zero_le _, [], .nil, IsTup.new _ _⟩, rfl, q _ (I.hok.fresh (Nat.le_refl _))⟩⟩)
theorem or_repA : OpR X (binaryOp .Mult) (rRepA X.K) := op_repT.or op_rep01
end
def mRepA : D → D → Sto → Option D
  | .tup l, .int k, _ => if l ≠ [] ∧ 0 ≤ k ∧ k ≤ 1000 ∧ l.length ≤ 1000 then some (.tup (List.replicate k.toNat l).flatten) else none
  | _, _, _ => none
theorem od_repA {K : Zx} : OpD K (rRepA K) mRepA := by
  intro β H st x y dx dy d Q rx ry S e q
  by_cases h2 : mRep dx dy st = some d
  · exact .inl (od_rep β H st x y dx dy d Q rx ry S h2 q)
  · cases dx <;> cases dy <;> simp only [mRepA, reduceCtorEq] at e
    case tup.int l k =>
      split at e
      · rename_i hz
        obtain ⟨h0, h1, h3, h4⟩ := hz
        have e := Option.some.inj e
        subst e
        have hk : k = 0 ∨ k = 1 := by
          refine Classical.byContradiction fun z => h2 ?_
          show (if l ≠ [] ∧ 2 ≤ k ∧ k ≤ 1000 ∧ l.length ≤ 1000 then _ else _) = _
          rw [if_pos ⟨h0, by omega, h3, h4⟩]
        cases ry
        cases rx with
        | tup hT r hl =>
          have hne : ∀ {xs : List V}, Reps K β H xs l → xs ≠ [] := fun r z => by
            subst z
            cases r
            exact h0 rfl
          rcases hk with rfl | rfl
          · exact .inr ⟨_, 0, _, rfl, rfl, hT, hne r, .inr ⟨rfl, fun p hp => q _ _ (same_new hp) (.tup (.inl (.inl upd_same)) .nil (Nat.zero_le _))⟩⟩
          · refine .inr ⟨_, 1, _, rfl, rfl, hT, hne r, .inl ⟨rfl, q _ _ (Same.refl H) ?_⟩⟩
            have e1 : (List.replicate (Int.toNat 1) l).flatten = l := by simp
            rw [e1]
            exact .tup hT r hl
      · cases e
/-! ### d1["a"], d2["b"] = x, y -/
def rSetD : V → V → V → Hp → (Hp → Prop) → Prop := fun x y v H Q => ∃ a H', x = .ref a ∧ DPut H a y v H' ∧ Q H'
theorem set_dict {X : Cx} (hu : X.A.units + 1 < cLine) : PSet X rSetD := by
  intro pins s σ H o i v ov iv u Q I ro ri rv h
  obtain ⟨a, H', rfl, g, q⟩ := h
  cases ro
  exact d_setItem hu I g ri rv fun s4 I4 => ⟨H', I4, q⟩
def put1 (fo : G D) (k : Str) (v : D) : Env → Sto → Out Unit := fun ρ st => (fo ρ st).bind fun o s2 => match dKAt o s2 with
  | some (n, kvs) => if kvs.length < 1000 then .ok () (s2.set n (.dK (putKD kvs (.inr k) v))) else .bad
  | none => .bad
def sPut2K (f1 : G D) (k1 : Str) (f2 : G D) (k2 : Str) (f : G D) : G Fl := fun ρ st => (f ρ st).bind fun d s1 => match d with
  | .tup [a, b] => (put1 f1 k1 a ρ s1).bind fun _ s2 => (put1 f2 k2 b ρ s2).bind fun _ s3 => .ok (.nx ρ) s3
  | _ => .bad
section
variable {X : Cx} {W : WX} {pos : Pos} {o1 o2 e : Expr} {f1 f2 f : G D} {k : Nat}
theorem put1_ok {fo : G D} {x : Str} {σ : L2.St} {β : Bx} {H : Hp} {ρ : Env} {st : Sto} {v : V} {d : D} {P : Unit → Sto → Prop} {E : Exn → Sto → Prop} {R : Hp → Prop} (hρ : RepEnv (zOf X) β H σ ρ) (hs : StoOk (zOf X) β H st) (rv : Rep (zOf X) β H v d) (h : (put1 fo x d ρ st).sat P E)
    (hP : ∀ st' β' H', P () st' → Ext β H β' H' → StoOk (zOf X) β' H' st' → R H') (hE : ∀ y s, E y s → PostX (zOf X) X.mg (fun c d H' => W c d σ H') β H y s) :
    tD (zOf X) X.mg W fo σ H fun x1 H1 => tC (.str x) σ H1 fun y1 H2 => rSetD x1 y1 v H2 R := by
  refine tD_intro hρ hs (Out.sat_bind h) (fun d_o s2 h2 vo β2 H2 e2 S2 r2 => ?_) fun _ _ q => hE _ _ q
  show rSetD _ _ _ _ _
  split at h2
  · rename_i n kvs hd
    split at h2
    · rename_i hz
      obtain ⟨rfl, hst, a, vs, rfl, hm, hH, ek, rr⟩ := dKAt_ok hd r2 S2
      have hl : vs.length = kvs.length := by
        have := congrArg List.length ek
        simpa using this
      refine ⟨a, _, rfl, .k (k := (.inr x : Key)) hH (by rw [hl, sizeLine_eq]; omega), ?_⟩
      have ew : Ext β2 H2 β2 (upd H2 a (.dK (putK vs (.inr x : Key) v))) := Ext.write hm hH (fun _ z => by cases z) (fun _ _ z => by cases z) (fun _ _ z => by unfold LamX.CodeO at z; cases z) (fun _ z => by cases z)
      obtain ⟨p1, p2⟩ := putK_rel (k := (.inr x : Key)) (Rep.ext (e2.trans ew) _ _ rv) ek (Reps.ext ew _ _ rr)
      have p3 : (putK vs (.inr x : Key) v).length = (putKD kvs (.inr x : Key) d).length := by
        have := congrArg List.length p1
        simpa using this
      exact hP _ β2 _ h2 (e2.trans ew) (S2.write hm ew ⟨_, upd_same, p3, p1, p2⟩)
    · exact h2.elim
  · exact h2.elim
theorem ds_put2K {k1 k2 : Str} {j1 j2 kt : Nat} {q1 q2 t1 t2 tp : Pos} (hr : Room k X.A) (hc : X.calm = true) (he : DE X W e f) (h1 : DE X W o1 f1) (h2 : DE X W o2 f2)
    (ha1 : ∀ v, assign (.Subscript o1 (.Constant (.str k1) j1 q1) t1) X.env v = (do
      let ov ← holding [v] (eval o1 X.env)
      let iv ← holding [v, ov] (eval (.Constant (.str k1) j1 q1) X.env)
      standAt t1
      holding [v, ov, iv] (setItem ov iv v)
      release [v, ov, iv] []) := by intro _; rfl)
    (ha2 : ∀ v, assign (.Subscript o2 (.Constant (.str k2) j2 q2) t2) X.env v = (do
      let ov ← holding [v] (eval o2 X.env)
      let iv ← holding [v, ov] (eval (.Constant (.str k2) j2 q2) X.env)
      standAt t2
      holding [v, ov, iv] (setItem ov iv v)
      release [v, ov, iv] []) := by intro _; rfl)
    (hs : swapsWithSole [.Tuple [.Subscript o1 (.Constant (.str k1) j1 q1) t1, .Subscript o2 (.Constant (.str k2) j2 q2) t2] kt tp] e pos.line X.env = pure false := by rfl)
    (hw : swappedStores [.Tuple [.Subscript o1 (.Constant (.str k1) j1 q1) t1, .Subscript o2 (.Constant (.str k2) j2 q2) t2] kt tp] e X.env = pure none := by rfl)
    (h1' : (assignEach [.Tuple [.Subscript o1 (.Constant (.str k1) j1 q1) t1, .Subscript o2 (.Constant (.str k2) j2 q2) t2] kt tp] X.env).map (·.2) = [assign (.Tuple [.Subscript o1 (.Constant (.str k1) j1 q1) t1, .Subscript o2 (.Constant (.str k2) j2 q2) t2] kt tp) X.env] := by rfl)
    (hn : (assignEach [.Subscript o1 (.Constant (.str k1) j1 q1) t1, .Subscript o2 (.Constant (.str k2) j2 q2) t2] X.env).length = 2 := by rfl)
    (hst : (assignEach [.Subscript o1 (.Constant (.str k1) j1 q1) t1, .Subscript o2 (.Constant (.str k2) j2 q2) t2] X.env).findIdx? (·.1) = none := by rfl) :
    DS X W (.Assign [.Tuple [.Subscript o1 (.Constant (.str k1) j1 q1) t1, .Subscript o2 (.Constant (.str k2) j2 q2) t2] kt tp] e pos) (sPut2K f1 k1 f2 k2 f) := by
  have hu := hu_of hr
  refine PSmono (ps_asg he (pg_tup hc (pgs_cons (pg_sub h1 pe_str (set_dict hu) ha1) (pgs_cons (pg_sub h2 pe_str (set_dict hu) ha2) pgs_nil)) hn hst) hs hw h1') fun D' σ H h => ?_
  obtain ⟨β, ρ, st, hρ, hs, h⟩ := h
  refine tD_intro hρ hs (Out.sat_bind h) (fun d s1 h1 v β1 H1 e1 S1 r1 => ?_) fun _ _ q => xs_x q
  split at h1
  · rename_i a b
    cases r1 with
    | tup hT rr hl =>
      obtain ⟨va, vb, rfl, ra, rb⟩ := rr.two
      refine ⟨_, _, rfl, hT, rfl, va, [vb], rfl, ?_⟩
      refine put1_ok (hρ.ext e1) S1 ra (Out.sat_bind h1) (fun s2 β2 H2 h2 e2 S2 => ?_) fun _ _ q => (xs_x q).ext e1
      refine ⟨vb, [], rfl, ?_⟩
      refine put1_ok ((hρ.ext e1).ext e2) S2 (Rep.ext e2 _ _ rb) (Out.sat_bind h2) (fun s3 β3 H3 h3 e3 S3 => ?_) fun _ _ q => ((xs_x q).ext e1).ext e2
      exact ⟨rfl, h3 σ β3 H3 ((e1.trans e2).trans e3) S3 (((hρ.ext e1).ext e2).ext e3)⟩
  · exact h1.elim
end
/-! ### list(a dict), sorted(ints) -/
def kD : Key → D
  | .inl i => .int i
  | .inr x => .str x
theorem kD_rep {K : Zx} {β : Bx} {H : Hp} : ∀ k : Key, Rep K β H (kV k) (kD k)
  | .inl i => .int i
  | .inr x => .str x
theorem kDs_rep {K : Zx} {β : Bx} {H : Hp} : ∀ ks : List Key, Reps K β H (ks.map kV) (ks.map kD)
  | [] => .nil
  | k :: ks => .cons (kD_rep k) (kDs_rep ks)
def mListK : List D → Sto → Option D
  | [o], st => match dKAt o st with
    | some (_, kvs) => if kvs.length ≤ 1000 then some (.lst ((kvs.map (·.1)).map kD)) else none
    | none => none
  | _, _ => none
theorem cd_listK {K : Zx} : CallD K L2.rListD mListK := by
  intro β H st xs ds d Q r S e q
  match ds, r with
  | [], _ => cases e
  | _ :: _ :: _, _ => cases e
  | [o], r =>
    obtain ⟨v, rfl, r1⟩ := r.one
    have e : (match dKAt o st with
      | some (_, kvs) => if kvs.length ≤ 1000 then some (D.lst ((kvs.map (·.1)).map kD)) else none
      | none => none) = some d := e
    cases hd : dKAt o st with
    | none => rw [hd] at e; cases e
    | some z =>
      obtain ⟨n, kvs⟩ := z
      rw [hd] at e
      have e : (if kvs.length ≤ 1000 then some (D.lst ((kvs.map (·.1)).map kD)) else none) = some d := e
      by_cases hz : kvs.length ≤ 1000
      · rw [if_pos hz] at e
        cases e
        obtain ⟨rfl, hst, a, vs, rfl, hm, hH, ek, rr⟩ := dKAt_ok hd r1 S
        refine ⟨a, vs, rfl, hH, fun p hp => q _ _ (same_new hp) (.lst upd_same (S.nmem hp) ?_ (by rw [List.length_map, List.length_map, sizeLine_eq]; omega))⟩
        have e1 : (vs.map fun kv => kV kv.1) = (kvs.map (·.1)).map kV := by rw [← ek, List.map_map]; rfl
        rw [e1]
        exact kDs_rep _
      · rw [if_neg hz] at e
        cases e
def insI (i : Int) : List Int → List Int
  | [] => [i]
  | j :: r => if i ≤ j then i :: j :: r else j :: insI i r
def sortI : List Int → List Int
  | [] => []
  | i :: r => insI i (sortI r)
theorem insI_perm (i : Int) : ∀ l : List Int, (insI i l).Perm (i :: l)
  | [] => .refl _
  | j :: r => by
    unfold insI
    split
    · exact .refl _
    · exact ((insI_perm i r).cons j).trans (.swap i j r)
theorem sortI_perm : ∀ l : List Int, (sortI l).Perm l
  | [] => .refl _
  | i :: r => (insI_perm i (sortI r)).trans ((sortI_perm r).cons i)
theorem insI_sorted (i : Int) : ∀ l : List Int, l.Pairwise (· ≤ ·) → (insI i l).Pairwise (· ≤ ·)
  | [], _ => List.pairwise_singleton _ _
  | j :: r, h => by
    have h0 := h
    rw [List.pairwise_cons] at h
    unfold insI
    split
    · rename_i hij
      rw [List.pairwise_cons]
      refine ⟨fun z hz => ?_, h0⟩
      rcases List.mem_cons.mp hz with e | hz
      · rw [e]
        exact hij
      · exact Int.le_trans hij (h.1 z hz)
    · rename_i hij
      rw [List.pairwise_cons]
      refine ⟨fun z hz => ?_, insI_sorted i r h.2⟩
      rcases List.mem_cons.mp ((insI_perm i r).mem_iff.mp hz) with e | hz
      · rw [e]
        omega
      · exact h.1 z hz
theorem sortI_sorted : ∀ l : List Int, (sortI l).Pairwise (· ≤ ·)
  | [] => .nil
  | i :: r => insI_sorted i _ (sortI_sorted r)
def intsOf : List D → Option (List Int)
  | [] => some []
  | .int i :: r => (intsOf r).map (i :: ·)
  | _ => none
theorem intsOf_eq : ∀ {l : List D} {ns : List Int}, intsOf l = some ns → l = ns.map D.int
  | [], ns, h => by cases h; rfl
  | d :: r, ns, h => by
    cases d <;> simp only [intsOf, reduceCtorEq, Option.map_eq_some_iff] at h
    obtain ⟨m, h1, rfl⟩ := h
    rw [intsOf_eq h1]
    rfl
theorem reps_intsV {K : Zx} {β : Bx} {H : Hp} : ∀ {ns : List Int} {xs : List V}, Reps K β H xs (ns.map D.int) → xs = ns.map V.int
  | [], xs, r => by cases r; rfl
  | n :: ns, xs, r => by
    cases r with
    | cons r1 r2 =>
      cases r1
      rw [reps_intsV r2]
      rfl
def mSortI : List D → Sto → Option D
  | [.lst l], _ => (intsOf l).map fun ns => .lst ((sortI ns).map D.int)
  | _, _ => none
theorem cd_sortI {K : Zx} : CallD K (rSortedI K) mSortI := by
  intro β H st xs ds d Q r S e q
  match ds, r, e with
  | [.lst l], r, e =>
    obtain ⟨v, rfl, r1⟩ := r.one
    simp only [mSortI, Option.map_eq_some_iff] at e
    obtain ⟨ns, hn, rfl⟩ := e
    have el := intsOf_eq hn
    subst el
    cases r1 with
    | lst h1 hn' h2 h3 =>
      have ex := reps_intsV h2
      subst ex
      refine ⟨_, ns, rfl, SqL.of h1, fun ns' p hp hs hf => ?_⟩
      have e1 : ns' = sortI ns := List.Perm.eq_of_pairwise (le := (· ≤ ·)) (fun a b _ _ h1 h2 => Int.le_antisymm h1 h2) hs (sortI_sorted ns) (hp.trans (sortI_perm ns).symm)
      subst e1
      refine q _ _ (same_new hf) (.lst upd_same (S.nmem hf) (reps_ints _) ?_)
      rw [List.length_map, (sortI_perm ns).length_eq]
      rw [List.length_map] at h3
      exact h3
/-! ### a try whose clause tells whether the error is of a class -/
section
variable {Y : Cx} {i : Nat} {a : Addr} {pos : Pos}
theorem se_bl {b : Bool} {j : Nat} : SE Y i a (.Constant (.bool b) j pos) (.bl b) := PEmono pe_bl fun _ _ _ h => h.2
end
end DL

set_option Elab.async false
set_option linter.all false
set_option maxRecDepth 100000
set_option maxHeartbeats 2000000
/-! # A law's end, several defs' tables told -/
namespace DL
open PySem PySem.Spec L2
open PyProof.Rows hiding St
open LamX hiding takes0
/-- the tables of the defs named ns are empty -/
def OwnTabs (K : PySem.W.Frag) (mg : Str → Option Value) (ns : List Str) (h : Heap) : Prop := ∀ x ∈ ns, ∀ f : Addr, mg x = some (.ref f) → OwnTab K f h
theorem walk_ofTabs {l : PySem.W.OpenLaw} {n k : Nat} {q : Program} {loose : List Str} {XP : (Str → Option Value) → Heap → Prop} {YP : World → Heap → Prop} {d : DefRec} {K : Params → PySem.W.Frag} {CX : World → CXT} {x : Str} (ns : List Str)
    (hn : l.most = some n) (hn2 : n ≤ sizeLine) (hdf : d.params.defaults = []) (hr : Room k callerA) (hrec : (ns.all fun y => (recsOf q).any fun e => e.name == y) = true) (hY : ∀ (w : World) (h : Heap), YP w h → (K w.params).In h)
    (F : ∀ (w : World) (mg : Str → Option Value) (fa : Addr) (h : Heap), YP w h → (K w.params).In h → h.Ns mainGlobals mg → mg d.name = some (.ref fa) → OwnTabs (K w.params) mg ns h → LawAtS l w (K w.params) (CX w) k n x mg fa h)
    (hCX : ∀ (w : World) (H : Hp) (s : Shared) (e : Value) (s' : Shared), CX w [] H s (fun _ _ _ => False) e s' → False) :
    PySem.W.WalkO q loose XP YP l.row.toRowW d [] (fun f vs => PySem.call f vs) := by
  refine Att.attach_callB hn hdf fun w s₀ s₁ mg mb fa o pm cd doc a vs ns' G Y ho hd hcd hmg hobj hints hlen hbits hg => ?_
  have KX := hY w _ Y
  have own : OwnTabs (K w.params) mg ns s₁.heap := fun y hy f hf c P o1 fd1 e dd vs1 sl k1 k2 k3 k4 k5 => by
    obtain ⟨dL, hm, hn1⟩ := List.any_eq_true.mp (List.all_eq_true.mp hrec y hy)
    have hn2 : dL.name = y := beq_iff_eq.mp hn1
    obtain ⟨a', o', fd', c', P', h1, h2, h3, h4, h5, h6⟩ := G.T.tab dL hm
    rw [hn2, hf] at h1
    cases h1
    have g1 := KX _ _ k1
    rw [g1] at h2
    cases h2
    rw [k2] at h3
    cases h3
    rw [k3] at h4
    cases h4
    obtain ⟨⟨oc, vc, e1, _, e3, e4⟩, hP⟩ := h6
    have g2 := KX _ _ k4
    rw [g2] at e1
    cases e1
    cases e3
    rw [k5] at e4
    cases e4
    exact hP
  obtain ⟨fd, cs, sp, hT, nT, C, hb, hsp, hF⟩ := F w mg fa _ Y KX G.T.g hmg own
  exact law_callTs KX G.T.g G.T.b G.T.builtins G.T.nolimit hg hT nT C G.T.bmain hobj hints (Nat.le_trans hlen hn2) hr hF hb (fun H hH hS => hsp H a ns' hlen hbits hH hS) fun H e s' => hCX w H s₁ e s'
end DL

set_option Elab.async false
set_option linter.all false
set_option maxRecDepth 100000
set_option maxHeartbeats 2000000
/-! # Rows for simp: lambdas handed on, dicts by texts and ints, new lists -/
namespace DL
open PySem PySem.Spec L2
open PyProof.Rows hiding St
section
variable {ρ : Env} {st s1 s2 : Sto} {d e v x : D} {l : List D} {n : Nat} {f g fo fi fv fx fe : G D} {fs : G (List D)} {m : D → D → Sto → Option (List D)} {kvs : List (Key × D)} {k : Key}
def cloOut (gb : G D) (caps ds : List D) (s1 : Sto) : Out D := (gb ((caps ++ ds).map some) s1).nox
theorem clo_at {i : Nat} {tab : List (Str × G D)} {q : Str} {caps : List D} {gb : G D} (h : ρ[i]? = some (some (.clo q caps))) (ht : tab.lookup q = some gb) : gClo i tab fs ρ st = (fs ρ st).bind (cloOut gb caps) := by
  unfold gClo
  rw [h]
  simp only [ht]
  rfl
def lamOut (d : Str) (is : List Nat) (m : List D → Sto → Out D) (ρ : Env) (a : D) (s1 : Sto) : Out D := match capsAt is ρ with
  | some cs => if s1.any (SO.isTab d) = true then (match m [a, .clo d cs] s1 with
    | .ok r s2 => if r.cf = true ∧ Cf s2 then .ok r s2 else .bad
    | _ => .bad) else .bad
  | none => .bad
@[simp] theorem e_LamArg {q : Str} {is : List Nat} {mm : List D → Sto → Out D} : gLamArg q is mm fe ρ st = (fe ρ st).bind (lamOut q is mm ρ) := rfl
theorem lam_at {q : Str} {is : List Nat} {mm : List D → Sto → Out D} {cs : List D} {r : D} (h1 : capsAt is ρ = some cs) (h2 : st.any (SO.isTab q) = true) (h3 : mm [d, .clo q cs] st = .ok r s2) (h4 : r.cf = true) (h5 : Cf s2) : lamOut q is mm ρ d st = .ok r s2 := by
  unfold lamOut
  rw [h1]
  simp only [h2, h3, if_true]
  rw [if_pos ⟨h4, h5⟩]
def newOut (o : Option (List D)) (s2 : Sto) : Out D := match o with
  | some l => .ok (.ref s2.length) (s2 ++ [.lst l])
  | none => .bad
@[simp] theorem e_newOut : newOut (some l) st = .ok (.ref st.length) (st ++ [.lst l]) := rfl
@[simp] def kOpN2 (m : D → D → Sto → Option (List D)) (d e : D) (s2 : Sto) : Out D := newOut (m d e s2) s2
@[simp] def kOpN (m : D → D → Sto → Option (List D)) (g : G D) (ρ : Env) (d : D) (s1 : Sto) : Out D := (g ρ s1).bind (kOpN2 m d)
@[simp] theorem e_OpN : gOpN m f g ρ st = (f ρ st).bind (kOpN m g ρ) := rfl
@[simp] def kCBN (m : List D → Sto → Option (List D)) (ds : List D) (s1 : Sto) : Out D := newOut (m ds s1) s1
@[simp] theorem e_CBN {m : List D → Sto → Option (List D)} : gCBN m fs ρ st = (fs ρ st).bind (kCBN m) := rfl
@[simp] theorem o_ln1 : mListN [.tup l] st = some l := rfl
@[simp] theorem o_ln2 : mListN [.lst l] st = some l := rfl
@[simp] theorem o_rn {i : Int} : mRepN (.lst l) (.int i) st = if 0 ≤ i ∧ i ≤ 1000 ∧ l.length ≤ 1000 then some (List.replicate i.toNat l).flatten else none := rfl
@[simp] theorem o_ra {i : Int} : mRepA (.tup l) (.int i) st = if l ≠ [] ∧ 0 ≤ i ∧ i ≤ 1000 ∧ l.length ≤ 1000 then some (.tup (List.replicate i.toNat l).flatten) else none := rfl
theorem dk_at (h : st[n]? = some (.dK kvs)) : dKAt (.ref n) st = some (n, kvs) := by
  simp only [dKAt, h]
theorem ixK_s {z : Str} (h : st[n]? = some (.dK kvs)) : mIxK (.ref n) (.str z) st = luK kvs (.inr z) := by
  simp only [mIxK, dk_at h, keyK]
theorem ixK_i {i : Int} (h : st[n]? = some (.dK kvs)) : mIxK (.ref n) (.int i) st = luK kvs (.inl i) := by
  simp only [mIxK, dk_at h, keyK]
def getKOut (o i x : D) (s3 : Sto) : Out D := match dKAt o s3, keyK i with
  | some (_, kvs), some k => .ok ((luK kvs k).getD x) s3
  | _, _ => .bad
@[simp] def kGet3 (o i x : D) (s3 : Sto) : Out D := getKOut o i x s3
@[simp] def kGet2 (fx : G D) (ρ : Env) (o i : D) (s2 : Sto) : Out D := (fx ρ s2).bind (kGet3 o i)
def kGet1 (fi fx : G D) (ρ : Env) (o : D) (s1 : Sto) : Out D := match dKAt o s1 with
  | none => .bad
  | some _ => (fi ρ s1).bind (kGet2 fx ρ o)
@[simp] theorem e_GetK : gGetK fo fi fx ρ st = (fo ρ st).bind (kGet1 fi fx ρ) := rfl
theorem get1_at (h : st[n]? = some (.dK kvs)) : kGet1 fi fx ρ (.ref n) st = (fi ρ st).bind (kGet2 fx ρ (.ref n)) := by
  simp only [kGet1, dk_at h]
theorem getK_i {i : Int} (h : st[n]? = some (.dK kvs)) : getKOut (.ref n) (.int i) x st = .ok ((luK kvs (.inl i)).getD x) st := by
  simp only [getKOut, dk_at h, keyK]
def putKOut (o i v : D) (ρ : Env) (s3 : Sto) : Out Fl := match dKAt o s3, keyK i with
  | some (n, kvs), some k => if kvs.length < 1000 then .ok (.nx ρ) (s3.set n (.dK (putKD kvs k v))) else .bad
  | _, _ => .bad
@[simp] def kPutK3 (ρ : Env) (v o i : D) (s3 : Sto) : Out Fl := putKOut o i v ρ s3
@[simp] def kPutK2 (fi : G D) (ρ : Env) (v o : D) (s2 : Sto) : Out Fl := (fi ρ s2).bind (kPutK3 ρ v o)
@[simp] def kPutK1 (fo fi : G D) (ρ : Env) (v : D) (s1 : Sto) : Out Fl := (fo ρ s1).bind (kPutK2 fi ρ v)
@[simp] theorem e_sPutK : sPutK fo fi fv ρ st = (fv ρ st).bind (kPutK1 fo fi ρ) := rfl
theorem putK_i {i : Int} (h : st[n]? = some (.dK kvs)) (hl : kvs.length < 1000) : putKOut (.ref n) (.int i) v ρ st = .ok (.nx ρ) (st.set n (.dK (putKD kvs (.inl i) v))) := by
  simp only [putKOut, dk_at h, keyK, if_pos hl]
theorem putK_s {z : Str} (h : st[n]? = some (.dK kvs)) (hl : kvs.length < 1000) : putKOut (.ref n) (.str z) v ρ st = .ok (.nx ρ) (st.set n (.dK (putKD kvs (.inr z) v))) := by
  simp only [putKOut, dk_at h, keyK, if_pos hl]
def put1Out (z : Str) (v o : D) (s2 : Sto) : Out Unit := match dKAt o s2 with
  | some (n, kvs) => if kvs.length < 1000 then .ok () (s2.set n (.dK (putKD kvs (.inr z) v))) else .bad
  | none => .bad
@[simp] theorem e_put1 {z : Str} : put1 fo z v ρ st = (fo ρ st).bind (put1Out z v) := rfl
theorem put1_at {z : Str} (h : st[n]? = some (.dK kvs)) (hl : kvs.length < 1000) : put1Out z v (.ref n) st = .ok () (st.set n (.dK (putKD kvs (.inr z) v))) := by
  simp only [put1Out, dk_at h, if_pos hl]
def k2K3 (ρ : Env) (_ : Unit) (s3 : Sto) : Out Fl := .ok (.nx ρ) s3
def k2K2 (f2 : G D) (k2 : Str) (b : D) (ρ : Env) (_ : Unit) (s2 : Sto) : Out Fl := (put1 f2 k2 b ρ s2).bind (k2K3 ρ)
def k2K1 (f1 : G D) (k1 : Str) (f2 : G D) (k2 : Str) (ρ : Env) (d : D) (s1 : Sto) : Out Fl := match d with
  | .tup [a, b] => (put1 f1 k1 a ρ s1).bind (k2K2 f2 k2 b ρ)
  | _ => .bad
@[simp] theorem e_k2K3 {u : Unit} : k2K3 ρ u st = .ok (.nx ρ) st := rfl
@[simp] theorem e_k2K2 {f2 : G D} {k2 : Str} {u : Unit} : k2K2 f2 k2 e ρ u st = (put1 f2 k2 e ρ st).bind (k2K3 ρ) := rfl
@[simp] theorem e_k2K1 {f1 f2 : G D} {k1 k2 : Str} : k2K1 f1 k1 f2 k2 ρ (.tup [d, e]) st = (put1 f1 k1 d ρ st).bind (k2K2 f2 k2 e ρ) := rfl
@[simp] theorem e_Put2K {f1 f2 : G D} {k1 k2 : Str} : sPut2K f1 k1 f2 k2 f ρ st = (f ρ st).bind (k2K1 f1 k1 f2 k2 ρ) := rfl
def dispOut (ns : List Str) (o : Out (List D)) : Out D := match o with
  | .ok ds s1 => if ds.length = ns.length then .ok (.ref s1.length) (s1 ++ [.dK (keysOf ns ds)]) else .bad
  | _ => .bad
@[simp] theorem e_DispK {ns : List Str} : gDispK ns fs ρ st = dispOut ns (fs ρ st) := rfl
theorem disp_at {ns : List Str} {ds : List D} (h : ds.length = ns.length) : dispOut ns (.ok ds st) = .ok (.ref st.length) (st ++ [.dK (keysOf ns ds)]) := by
  simp only [dispOut, if_pos h]
@[simp] def kZipM (d : List D) (s1 : Sto) : Out (List D) := oout (mZipM d) s1
@[simp] theorem e_ZipM : gZipM fs ρ st = (fs ρ st).bind kZipM := rfl
@[simp] theorem o_zipm {a b : List D} : mZipM [.lst a, .tup b] = some (zipD a b) := rfl
theorem listK_at (h : st[n]? = some (.dK kvs)) (hl : kvs.length ≤ 1000) : mListK [.ref n] st = some (.lst ((kvs.map (·.1)).map kD)) := by
  simp only [mListK, dk_at h, if_pos hl]
theorem intsOf_map : ∀ ns : List Int, intsOf (ns.map D.int) = some ns
  | [] => rfl
  | n :: ns => by simp [intsOf, intsOf_map ns]
theorem sortI_at (ns : List Int) : mSortI [.lst (ns.map D.int)] st = some (.lst ((sortI ns).map D.int)) := by
  simp [mSortI, intsOf_map]
end
end DL

set_option Elab.async false
set_option linter.all false
set_option maxRecDepth 100000
set_option maxHeartbeats 2000000
/-! # Instructions, designs, the draws' row: nothing of a program's text -/
namespace CM
open PySem PySem.Spec L2 DL
open PyProof.Rows hiding St
theorem ix_at {n : Nat} {i : Int} {l : List D} {st : Sto} (h : st[n]? = some (.lst l)) : mIx (.ref n) (.int i) st = atI l i := by
  simp only [mIx, h]
theorem put_lit {n k : Nat} {l : List D} {v : D} {ρ : DL.Env} {st : Sto} (h : st[n]? = some (.lst l)) (hk : k < l.length) : putOut (.ref n) (.int (no_index (@OfNat.ofNat Int k _))) v ρ st = .ok (.nx ρ) (st.set n (.lst (l.set k v))) := by
  have hk' : ixN l.length ((k : Nat) : Int) = some k := by
    unfold ixN
    rw [if_pos (Int.natCast_nonneg k), if_pos (by omega)]
    rfl
  exact put_at h hk'
theorem get_set {n : Nat} {o u : SO} {st : Sto} (h : st[n]? = some o) : (st.set n u)[n]? = some u := by
  rw [List.getElem?_set_self (List.getElem?_eq_some_iff.mp h).1]
/-- the draws' row -/
abbrev rowS (sc : D) (p q c : Int) : SO := .lst [sc, .int p, .int q, .int c]
/-- the script, as a list or as a list that is only read -/
structure Scr (ns : List Int) (sc : D) : Prop where
  ix : ∀ i st, mIx sc (.int i) st = atI (ns.map D.int) i
  len : ∀ st, mLen [sc] st = some (.int ns.length)
theorem scr_of {ns : List Int} {sc : D} (h : sc = .ro (ns.map D.int) ∨ sc = .lst (ns.map D.int)) : Scr ns sc := by
  rcases h with rfl | rfl <;> exact ⟨fun _ _ => rfl, fun _ => by simp⟩
/-- an instruction -/
inductive Ins where
  | rd (r x : Int) | wr (x n : Int) | cp (x r : Int) | fn | gd (r n : Int)
  deriving DecidableEq
def Ins.enc : Ins → D
  | .rd r x => .tup [.str "read", .int r, .int x]
  | .wr x n => .tup [.str "write", .int x, .int n]
  | .cp x r => .tup [.str "copy", .int x, .int r]
  | .fn => .tup [.str "fence"]
  | .gd r n => .tup [.str "guard", .int r, .int n]
def Ins.ok : Ins → Prop
  | .rd r x => (0 ≤ r ∧ r ≤ 1) ∧ (0 ≤ x ∧ x ≤ 2)
  | .wr x n => (0 ≤ x ∧ x ≤ 2) ∧ (0 ≤ n ∧ n ≤ 9)
  | .cp x r => (0 ≤ x ∧ x ≤ 2) ∧ (0 ≤ r ∧ r ≤ 1)
  | .fn => True
  | .gd r n => (0 ≤ r ∧ r ≤ 1) ∧ (0 ≤ n ∧ n ≤ 9)
/-- .. as it is drawn: two cells -/
def Ins.drawn : Ins → Prop
  | .rd r x => (0 ≤ r ∧ r ≤ 1) ∧ (0 ≤ x ∧ x ≤ 1)
  | .wr x n => (0 ≤ x ∧ x ≤ 1) ∧ (1 ≤ n ∧ n ≤ 3)
  | .cp x r => (0 ≤ x ∧ x ≤ 1) ∧ (0 ≤ r ∧ r ≤ 1)
  | .fn => True
  | .gd r n => (0 ≤ r ∧ r ≤ 1) ∧ (0 ≤ n ∧ n ≤ 1)
theorem Ins.drawn.ok {i : Ins} (h : i.drawn) : i.ok := by
  cases i <;> simp only [Ins.drawn, Ins.ok] at h ⊢ <;> omega
def encC (c : List Ins) : D := .tup (c.map Ins.enc)
def encP (p : List (List Ins)) : D := .tup (p.map encC)
/-- the words of a design -/
abbrev words8 : List Str := ["gr", "gw", "own", "rr", "rw", "ss", "wr", "ww"]
/-- a program: one to three cores of at most five instructions, ten in all -/
structure POk (p : List (List Ins)) : Prop where
  ins : ∀ c ∈ p, ∀ i ∈ c, i.ok
  n1 : 1 ≤ p.length
  n3 : p.length ≤ 3
  c5 : ∀ c ∈ p, c.length ≤ 5
  all : (p.map List.length).sum ≤ 10
end CM

set_option Elab.async false
set_option linter.all false
set_option maxRecDepth 100000
set_option maxHeartbeats 2000000
namespace CM
open PySem PySem.Spec L2 DL
open PyProof.Rows hiding St
@[simp] theorem lit_eq (a b : String) : (Str.ofString a = Str.ofString b) ↔ a = b := ⟨ofString_inj, congrArg _⟩
theorem gv {ρ : DL.Env} {n : Nat} {d : D} {st : Sto} (h : ρ[n]? = some (some d)) : gVar n ρ st = .ok d st := by
  unfold gVar
  rw [h]
theorem ints_map (k : Nat) : intsD 0 k = (List.range k).map fun j : Nat => D.int (j : Int) := by simp [intsD]
theorem bls_true {α : Type} : ∀ c : List α, bls (c.map fun _ => D.bl true) = some (c.map fun _ => true)
  | [] => rfl
  | _ :: c => by rw [List.map_cons, b_cons, bls_true c]; rfl
theorem words_ok : ∀ w ∈ words8, PyData.strOk w = true := by
  intro w hw
  simp only [List.mem_cons, List.not_mem_nil, or_false] at hw
  rcases hw with rfl | rfl | rfl | rfl | rfl | rfl | rfl | rfl <;> exact strOk_of _
theorem words_asc : Asc words8 := by
  decide +kernel
/-- a part of the words in their order is a design, and nothing else -/
theorem design_iff (ss : List Str) : ss = (words8.filter fun w => decide (w ∈ ss)) ↔ (∀ s ∈ ss, s ∈ words8) ∧ ss = sortS ss := by
  constructor
  · intro h
    have hm : ∀ s ∈ ss, s ∈ words8 := fun s hs => by
      rw [h] at hs
      exact (List.mem_filter.mp hs).1
    refine ⟨hm, ?_⟩
    have ha : Asc ss := by
      rw [h]
      exact words_asc.filter _
    exact asc_one ha (asc_sortS ss) fun z => mem_sortS.symm
  · rintro ⟨hm, h⟩
    have ha : Asc ss := by
      rw [h]
      exact asc_sortS ss
    refine asc_one ha (words_asc.filter _) fun z => ?_
    simp only [List.mem_filter, decide_eq_true_eq]
    exact ⟨fun hz => ⟨hm z hz, hz⟩, fun hz => hz.2⟩
theorem sub_design (ss : List Str) (h : ss.Sublist words8) : ss = (words8.filter fun w => decide (w ∈ ss)) := by
  have ha : Asc ss := words_asc.sublist h
  exact (design_iff ss).mpr ⟨fun s hs => h.subset hs, asc_one ha (asc_sortS ss) fun z => mem_sortS.symm⟩
theorem des_ok {sub : List Str} (h : sub.Sublist words8) : (sub.map D.str).all (okB 63) = true := okB_strs fun s hs => words_ok s (h.subset hs)
theorem in_des {sub : List Str} (h : sub.Sublist words8) (w : String) (st : Sto) : mIn false (.str (Str.ofString w)) (.tup (sub.map D.str)) st = some (.bl (decide (Str.ofString w ∈ sub))) := by
  rw [in_tup, ok_lit, ok_tup, des_ok h, any_strs]
  rfl
theorem nin_des {sub : List Str} (h : sub.Sublist words8) (w : String) (st : Sto) : mIn true (.str (Str.ofString w)) (.tup (sub.map D.str)) st = some (.bl (!decide (Str.ofString w ∈ sub))) := by
  rw [in_tup, ok_lit, ok_tup, des_ok h, any_strs]
  rfl
/-- data of the same form at every place, not deeper than n -/
def alk : Nat → D → Bool
  | 0, _ => false
  | n + 1, .tup l => l.all (alk n) && decide (l.length ≤ 1000)
  | n + 1, .lst l => l.all (alk n) && decide (l.length ≤ 1000)
  | _ + 1, .str x => PyData.strOk x
  | _ + 1, .int _ => true
  | _ + 1, .bl _ => true
  | _ + 1, .non => true
  | _ + 1, _ => false
theorem atI_mem {l : List D} {k : Nat} (h : k < l.length) : atI l ((k : Nat) : Int) = some l[k] := atI_nat (by simp [h])
end CM

set_option Elab.async false
set_option linter.all false
set_option maxRecDepth 100000
set_option maxHeartbeats 4000000
/-! # What comes last before a place; which pairs are kept: nothing of a program's text -/
namespace CM
open PySem PySem.Spec L2 DL
open PyProof.Rows hiding St
def Ins.isRd : Ins → Bool | .rd _ _ => true | _ => false
def Ins.isWr : Ins → Bool | .wr _ _ => true | .cp _ _ => true | _ => false
def Ins.cell : Ins → D | .rd _ x => .int x | .wr x _ => .int x | .cp x _ => .int x | _ => .non
def Ins.used : Ins → D | .cp _ r => .int r | .gd r _ => .int r | _ => .non
def tst (p : Ins → Bool) (c : List Ins) (k : Nat) : Bool := match c[k]? with | some i => p i | none => false
/-- the last place below k at which a test holds -/
def lastP (p : Ins → Bool) (c : List Ins) : Nat → Option Nat
  | 0 => none
  | k + 1 => if tst p c k = true then some k else lastP p c k
def Ins.kind : Ins → Str | .rd _ _ => "read" | .wr _ _ => "write" | .cp _ _ => "copy" | .fn => "fence" | .gd _ _ => "guard"
section
variable {r x n : Int} {st : Sto} {i : Ins}
@[simp] theorem ix_e0 : mIx i.enc (.int 0) st = some (.str i.kind) := by cases i <;> rfl
@[simp] theorem ix_rd1 : mIx (Ins.rd r x).enc (.int 1) st = some (.int r) := rfl
@[simp] theorem ix_rd2 : mIx (Ins.rd r x).enc (.int 2) st = some (.int x) := rfl
@[simp] theorem ix_wr1 : mIx (Ins.wr x n).enc (.int 1) st = some (.int x) := rfl
@[simp] theorem ix_cp1 : mIx (Ins.cp x r).enc (.int 1) st = some (.int x) := rfl
@[simp] theorem ix_cp2 : mIx (Ins.cp x r).enc (.int 2) st = some (.int r) := rfl
@[simp] theorem ix_gd1 : mIx (Ins.gd r n).enc (.int 1) st = some (.int r) := rfl
end
def optN : Option Nat → D | none => .non | some k => .int (k : Int)
def rdP (n : Int) : Ins → Bool | .rd r _ => decide (r = n) | _ => false
def wrP (n : Int) : Ins → Bool | .wr x _ => decide (x = n) | .cp x _ => decide (x = n) | _ => false
@[simp] theorem optN_some {k : Nat} : optN (some k) = .int (k : Int) := rfl
@[simp] theorem optN_none : optN none = .non := rfl
theorem ints_snoc (k : Nat) : intsD 0 (k + 1) = intsD 0 k ++ [.int (k : Int)] := by
  simp [intsD, List.range_succ]
theorem ix_core {c : List Ins} {k : Nat} (h : k < c.length) : atI (c.map Ins.enc) ((k : Nat) : Int) = some (c[k]).enc := atI_nat (by simp [h])
def stepP (p : Ins → Bool) (c : List Ins) (f : Option Nat) (k : Nat) : Option Nat := if tst p c k then some k else f
theorem lastP_fold (p : Ins → Bool) (c : List Ins) : ∀ k, lastP p c k = (List.range k).foldl (stepP p c) none
  | 0 => rfl
  | k + 1 => by
    rw [List.range_succ, List.foldl_append, ← lastP_fold p c k]
    rfl
theorem lastP_lt {p : Ins → Bool} {c : List Ins} : ∀ {k m : Nat}, lastP p c k = some m → m < k ∧ tst p c m = true
  | 0, _, h => by cases h
  | k + 1, m, h => by
    unfold lastP at h
    split at h
    · rename_i ht
      cases h
      exact ⟨Nat.lt_succ_self _, ht⟩
    · have := lastP_lt h
      exact ⟨by omega, this.2⟩
theorem tst_at {p : Ins → Bool} {c : List Ins} {k : Nat} (h : k < c.length) : tst p c k = p c[k] := by simp [tst, h]
/-! the law's own last place -/
def lastL (p : Ins → Bool) (c : List Ins) (k : Nat) : List D := match lastP p c k with
  | some m => [.int (m : Int)]
  | none => []
theorem cut_last (l : List D) (d : D) : DL.cutD (l ++ [d]) (some (-1)) none = [d] := by
  unfold DL.cutD HT.sIx
  simp
  have e : (-1 + ((l.length : Int) + 1)).toNat = l.length := by omega
  rw [e, List.drop_left]
  simp
theorem cut_nil : DL.cutD ([] : List D) (some (-1)) none = [] := by
  unfold DL.cutD
  simp
theorem cut_filter (p : Ins → Bool) (c : List Ins) : ∀ k, DL.cutD (((List.range k).filter (tst p c)).map fun j : Nat => D.int (j : Int)) (some (-1)) none = lastL p c k
  | 0 => cut_nil
  | k + 1 => by
    rw [List.range_succ, List.filter_append, List.map_append]
    unfold lastL lastP
    by_cases h : tst p c k = true
    · rw [if_pos h, List.filter_cons, if_pos h]
      exact cut_last _ _
    · rw [if_neg h, List.filter_cons, if_neg h]
      simp only [List.filter_nil, List.map_nil, List.append_nil]
      exact cut_filter p c k
@[simp] theorem cat_rr {st : Sto} : mAdd (.str "r") (.str "r") st = some (.str "rr") := rfl
@[simp] theorem hasf_rr {st : Sto} : mIn false (.str "f") (.str "rr") st = some (.bl false) := by
  show some (D.bl (inStr "f" "rr")) = _
  rw [show inStr "f" "rr" = false by decide +kernel]
@[simp] theorem at0_rr {st : Sto} : mIx (.str "rr") (.int 0) st = some (.str "r") := rfl
@[simp] theorem at1_rr {st : Sto} : mIx (.str "rr") (.int 1) st = some (.str "r") := rfl
@[simp] theorem cat_rw {st : Sto} : mAdd (.str "r") (.str "w") st = some (.str "rw") := rfl
@[simp] theorem hasf_rw {st : Sto} : mIn false (.str "f") (.str "rw") st = some (.bl false) := by
  show some (D.bl (inStr "f" "rw")) = _
  rw [show inStr "f" "rw" = false by decide +kernel]
@[simp] theorem at0_rw {st : Sto} : mIx (.str "rw") (.int 0) st = some (.str "r") := rfl
@[simp] theorem at1_rw {st : Sto} : mIx (.str "rw") (.int 1) st = some (.str "w") := rfl
@[simp] theorem cat_rg {st : Sto} : mAdd (.str "r") (.str "g") st = some (.str "rg") := rfl
@[simp] theorem hasf_rg {st : Sto} : mIn false (.str "f") (.str "rg") st = some (.bl false) := by
  show some (D.bl (inStr "f" "rg")) = _
  rw [show inStr "f" "rg" = false by decide +kernel]
@[simp] theorem at0_rg {st : Sto} : mIx (.str "rg") (.int 0) st = some (.str "r") := rfl
@[simp] theorem at1_rg {st : Sto} : mIx (.str "rg") (.int 1) st = some (.str "g") := rfl
@[simp] theorem cat_rf {st : Sto} : mAdd (.str "r") (.str "f") st = some (.str "rf") := rfl
@[simp] theorem hasf_rf {st : Sto} : mIn false (.str "f") (.str "rf") st = some (.bl true) := by
  show some (D.bl (inStr "f" "rf")) = _
  rw [show inStr "f" "rf" = true by decide +kernel]
@[simp] theorem at0_rf {st : Sto} : mIx (.str "rf") (.int 0) st = some (.str "r") := rfl
@[simp] theorem at1_rf {st : Sto} : mIx (.str "rf") (.int 1) st = some (.str "f") := rfl
@[simp] theorem cat_wr {st : Sto} : mAdd (.str "w") (.str "r") st = some (.str "wr") := rfl
@[simp] theorem hasf_wr {st : Sto} : mIn false (.str "f") (.str "wr") st = some (.bl false) := by
  show some (D.bl (inStr "f" "wr")) = _
  rw [show inStr "f" "wr" = false by decide +kernel]
@[simp] theorem at0_wr {st : Sto} : mIx (.str "wr") (.int 0) st = some (.str "w") := rfl
@[simp] theorem at1_wr {st : Sto} : mIx (.str "wr") (.int 1) st = some (.str "r") := rfl
@[simp] theorem cat_ww {st : Sto} : mAdd (.str "w") (.str "w") st = some (.str "ww") := rfl
@[simp] theorem hasf_ww {st : Sto} : mIn false (.str "f") (.str "ww") st = some (.bl false) := by
  show some (D.bl (inStr "f" "ww")) = _
  rw [show inStr "f" "ww" = false by decide +kernel]
@[simp] theorem at0_ww {st : Sto} : mIx (.str "ww") (.int 0) st = some (.str "w") := rfl
@[simp] theorem at1_ww {st : Sto} : mIx (.str "ww") (.int 1) st = some (.str "w") := rfl
@[simp] theorem cat_wg {st : Sto} : mAdd (.str "w") (.str "g") st = some (.str "wg") := rfl
@[simp] theorem hasf_wg {st : Sto} : mIn false (.str "f") (.str "wg") st = some (.bl false) := by
  show some (D.bl (inStr "f" "wg")) = _
  rw [show inStr "f" "wg" = false by decide +kernel]
@[simp] theorem at0_wg {st : Sto} : mIx (.str "wg") (.int 0) st = some (.str "w") := rfl
@[simp] theorem at1_wg {st : Sto} : mIx (.str "wg") (.int 1) st = some (.str "g") := rfl
@[simp] theorem cat_wf {st : Sto} : mAdd (.str "w") (.str "f") st = some (.str "wf") := rfl
@[simp] theorem hasf_wf {st : Sto} : mIn false (.str "f") (.str "wf") st = some (.bl true) := by
  show some (D.bl (inStr "f" "wf")) = _
  rw [show inStr "f" "wf" = true by decide +kernel]
@[simp] theorem at0_wf {st : Sto} : mIx (.str "wf") (.int 0) st = some (.str "w") := rfl
@[simp] theorem at1_wf {st : Sto} : mIx (.str "wf") (.int 1) st = some (.str "f") := rfl
@[simp] theorem cat_gr {st : Sto} : mAdd (.str "g") (.str "r") st = some (.str "gr") := rfl
@[simp] theorem hasf_gr {st : Sto} : mIn false (.str "f") (.str "gr") st = some (.bl false) := by
  show some (D.bl (inStr "f" "gr")) = _
  rw [show inStr "f" "gr" = false by decide +kernel]
@[simp] theorem at0_gr {st : Sto} : mIx (.str "gr") (.int 0) st = some (.str "g") := rfl
@[simp] theorem at1_gr {st : Sto} : mIx (.str "gr") (.int 1) st = some (.str "r") := rfl
@[simp] theorem cat_gw {st : Sto} : mAdd (.str "g") (.str "w") st = some (.str "gw") := rfl
@[simp] theorem hasf_gw {st : Sto} : mIn false (.str "f") (.str "gw") st = some (.bl false) := by
  show some (D.bl (inStr "f" "gw")) = _
  rw [show inStr "f" "gw" = false by decide +kernel]
@[simp] theorem at0_gw {st : Sto} : mIx (.str "gw") (.int 0) st = some (.str "g") := rfl
@[simp] theorem at1_gw {st : Sto} : mIx (.str "gw") (.int 1) st = some (.str "w") := rfl
@[simp] theorem cat_gg {st : Sto} : mAdd (.str "g") (.str "g") st = some (.str "gg") := rfl
@[simp] theorem hasf_gg {st : Sto} : mIn false (.str "f") (.str "gg") st = some (.bl false) := by
  show some (D.bl (inStr "f" "gg")) = _
  rw [show inStr "f" "gg" = false by decide +kernel]
@[simp] theorem at0_gg {st : Sto} : mIx (.str "gg") (.int 0) st = some (.str "g") := rfl
@[simp] theorem at1_gg {st : Sto} : mIx (.str "gg") (.int 1) st = some (.str "g") := rfl
@[simp] theorem cat_gf {st : Sto} : mAdd (.str "g") (.str "f") st = some (.str "gf") := rfl
@[simp] theorem hasf_gf {st : Sto} : mIn false (.str "f") (.str "gf") st = some (.bl true) := by
  show some (D.bl (inStr "f" "gf")) = _
  rw [show inStr "f" "gf" = true by decide +kernel]
@[simp] theorem at0_gf {st : Sto} : mIx (.str "gf") (.int 0) st = some (.str "g") := rfl
@[simp] theorem at1_gf {st : Sto} : mIx (.str "gf") (.int 1) st = some (.str "f") := rfl
@[simp] theorem cat_fr {st : Sto} : mAdd (.str "f") (.str "r") st = some (.str "fr") := rfl
@[simp] theorem hasf_fr {st : Sto} : mIn false (.str "f") (.str "fr") st = some (.bl true) := by
  show some (D.bl (inStr "f" "fr")) = _
  rw [show inStr "f" "fr" = true by decide +kernel]
@[simp] theorem at0_fr {st : Sto} : mIx (.str "fr") (.int 0) st = some (.str "f") := rfl
@[simp] theorem at1_fr {st : Sto} : mIx (.str "fr") (.int 1) st = some (.str "r") := rfl
@[simp] theorem cat_fw {st : Sto} : mAdd (.str "f") (.str "w") st = some (.str "fw") := rfl
@[simp] theorem hasf_fw {st : Sto} : mIn false (.str "f") (.str "fw") st = some (.bl true) := by
  show some (D.bl (inStr "f" "fw")) = _
  rw [show inStr "f" "fw" = true by decide +kernel]
@[simp] theorem at0_fw {st : Sto} : mIx (.str "fw") (.int 0) st = some (.str "f") := rfl
@[simp] theorem at1_fw {st : Sto} : mIx (.str "fw") (.int 1) st = some (.str "w") := rfl
@[simp] theorem cat_fg {st : Sto} : mAdd (.str "f") (.str "g") st = some (.str "fg") := rfl
@[simp] theorem hasf_fg {st : Sto} : mIn false (.str "f") (.str "fg") st = some (.bl true) := by
  show some (D.bl (inStr "f" "fg")) = _
  rw [show inStr "f" "fg" = true by decide +kernel]
@[simp] theorem at0_fg {st : Sto} : mIx (.str "fg") (.int 0) st = some (.str "f") := rfl
@[simp] theorem at1_fg {st : Sto} : mIx (.str "fg") (.int 1) st = some (.str "g") := rfl
@[simp] theorem cat_ff {st : Sto} : mAdd (.str "f") (.str "f") st = some (.str "ff") := rfl
@[simp] theorem hasf_ff {st : Sto} : mIn false (.str "f") (.str "ff") st = some (.bl true) := by
  show some (D.bl (inStr "f" "ff")) = _
  rw [show inStr "f" "ff" = true by decide +kernel]
@[simp] theorem at0_ff {st : Sto} : mIx (.str "ff") (.int 0) st = some (.str "f") := rfl
@[simp] theorem at1_ff {st : Sto} : mIx (.str "ff") (.int 1) st = some (.str "f") := rfl
@[simp] theorem isn_nn {st : Sto} : mIsNot .non .non st = some (.bl false) := rfl
@[simp] theorem isn_in {k : Int} {st : Sto} : mIsNot (.int k) .non st = some (.bl true) := rfl
def usedB (c : List Ins) (i j : Nat) : Ins → Bool
  | .cp _ r => decide (lastP (rdP r) c j = some i)
  | .gd r _ => decide (lastP (rdP r) c j = some i)
  | _ => false
def behB (sub : List Str) : Ins → Bool
  | .rd _ _ => decide (("gr" : Str) ∈ sub)
  | .wr _ _ => decide (("gw" : Str) ∈ sub)
  | .cp _ _ => decide (("gw" : Str) ∈ sub)
  | .gd _ _ => true
  | .fn => true
def rdB (sub : List Str) (x : Int) : Ins → Bool
  | .rd _ y => if x = y then decide (("ss" : Str) ∈ sub) else decide (("rr" : Str) ∈ sub)
  | .wr y _ => if x = y then true else decide (("rw" : Str) ∈ sub)
  | .cp y _ => if x = y then true else decide (("rw" : Str) ∈ sub)
  | .gd _ _ => false
  | .fn => true
def wrB (sub : List Str) (x : Int) : Ins → Bool
  | .rd _ y => if x = y then !decide (("own" : Str) ∈ sub) else decide (("wr" : Str) ∈ sub)
  | .wr y _ => if x = y then true else decide (("ww" : Str) ∈ sub)
  | .cp y _ => if x = y then true else decide (("ww" : Str) ∈ sub)
  | .gd _ _ => false
  | .fn => true
def pairB (sub : List Str) : Ins → Ins → Bool
  | .fn, _ => true
  | .gd _ _, b => behB sub b
  | .rd _ x, b => rdB sub x b
  | .wr x _, b => wrB sub x b
  | .cp x _, b => wrB sub x b
/-- kept by the two alone, or by what was read last -/
def keptB (sub : List Str) (c : List Ins) (i j : Nat) (a b : Ins) : Bool := usedB c i j b || pairB sub a b
/-- a read that waits for what was copied -/
def wB (sub : List Str) (c : List Ins) (i j : Nat) : Ins → Bool
  | .rd _ y => decide (("own" : Str) ∈ sub) && (match lastP (wrP y) c j with
    | some m => (match c[m]? with
      | some (.cp _ r) => decide (lastP (rdP r) c m = some i)
      | _ => false)
    | none => false)
  | _ => false
theorem optN_ok (o : Option Nat) : okD (optN o) = true := by cases o <;> simp
theorem optN_eq (o : Option Nat) (i : Nat) : eqD (optN o) (.int (i : Int)) = decide (o = some i) := by
  cases o with
  | none => simp
  | some k =>
    simp only [optN_some, q_int, Option.some.injEq]
    by_cases h : k = i
    · simp [h]
    · have : ¬ (k : Int) = i := by omega
      simp [h, this]
theorem lastL_ok (p : Ins → Bool) (c : List Ins) (k : Nat) : (lastL p c k).all (okB 63) = true := by
  unfold lastL
  split <;> simp
theorem lastL_eq (p : Ins → Bool) (c : List Ins) (k i : Nat) : eqDs [.int (i : Int)] (lastL p c k) = decide (lastP p c k = some i) := by
  unfold lastL
  cases lastP p c k with
  | none => simp
  | some m =>
    simp only [qs_cons, q_int, qs_nil, Bool.and_true, Option.some.injEq]
    by_cases h : m = i
    · simp [h]
    · have : ¬ (i : Int) = m := by omega
      simp [h, this]
theorem src_of {c : List Ins} {y : Int} {j m : Nat} (hj : j ≤ c.length) (h : lastP (wrP y) c j = some m) : m < j ∧ ((∃ n, c[m]? = some (.wr y n)) ∨ ∃ r, c[m]? = some (.cp y r)) := by
  obtain ⟨h1, h2⟩ := lastP_lt h
  refine ⟨h1, ?_⟩
  unfold tst at h2
  have hm : m < c.length := by omega
  rw [List.getElem?_eq_getElem hm] at h2 ⊢
  generalize c[m] = s at h2
  cases s <;> simp [wrP] at h2
  · subst h2; exact .inl ⟨_, rfl⟩
  · subst h2; exact .inr ⟨_, rfl⟩
def Ins.letter : Ins → Str | .rd _ _ => "r" | .wr _ _ => "w" | .cp _ _ => "w" | .fn => "f" | .gd _ _ => "g"
end CM

set_option Elab.async false
set_option linter.all false
set_option maxRecDepth 100000
set_option maxHeartbeats 4000000
/-! # Steps of a run, as lists: nothing of a program's text -/
namespace CM
open PySem PySem.Spec L2 DL
open PyProof.Rows hiding St
structure SM where
  c : Nat
  p : Nat
  ins : Ins
  waits : List Nat
  behind : List Nat
  src : Option Nat
def natD (k : Nat) : D := .int (k : Int)
def stepL (s : SM) : List (Str × D) := [("event", .tup [natD s.c, natD s.p]), ("instruction", s.ins.enc), ("waits", .tup (s.waits.map natD)), ("behind", .tup (s.behind.map natD)), ("source", optN s.src)]
abbrev stepSO (s : SM) : SO := .ins "Step" (stepL s)
def srcM (core : List Ins) (place : Nat) : Ins → Option Nat
  | .rd _ y => lastP (wrP y) core place
  | .cp _ r => lastP (rdP r) core place
  | .gd r _ => lastP (rdP r) core place
  | _ => none
def stepM (W : List Ins → Nat → Nat → Bool) (number : Nat) (core : List Ins) (start place : Nat) : SM :=
  ⟨number, place, core.getD place .fn, ((List.range place).filter fun i => W core i place).map (start + ·), ((List.range (core.length - (place + 1))).map fun i => place + 1 + i).map (start + ·), (srcM core place (core.getD place .fn)).map (start + ·)⟩
def stepsFrom (W : List Ins → Nat → Nat → Bool) : Nat → Nat → List (List Ins) → List SM
  | _, _, [] => []
  | n, s, c :: p => (List.range c.length).map (stepM W n c s) ++ stepsFrom W (n + 1) (s + c.length) p
/-- more things behind, without lambdas -/
def Gr (st st' : Sto) : Prop := ∃ new : Sto, st' = st ++ new ∧ Cf new
theorem Gr.refl (st : Sto) : Gr st st := ⟨[], by simp, rfl⟩
theorem Gr.trans {a b c : Sto} (h : Gr a b) (h' : Gr b c) : Gr a c := by
  obtain ⟨n, rfl, h1⟩ := h
  obtain ⟨m, rfl, h2⟩ := h'
  refine ⟨n ++ m, by simp, ?_⟩
  show (n ++ m).all SO.cf = true
  rw [List.all_append, h1, h2]
  rfl
theorem Gr.cf {a b : Sto} (h : Gr a b) (c : Cf a) : Cf b := by
  obtain ⟨n, rfl, h1⟩ := h
  show (a ++ n).all SO.cf = true
  rw [List.all_append, c, h1]
  rfl
theorem Gr.get {a b : Sto} (h : Gr a b) {n : Nat} {o : SO} (e : a[n]? = some o) : b[n]? = some o := by
  obtain ⟨m, rfl, h1⟩ := h
  rw [List.getElem?_append_left (List.getElem?_eq_some_iff.mp e).1]
  exact e
theorem Gr.len {a b : Sto} (h : Gr a b) : a.length ≤ b.length := by
  obtain ⟨m, rfl, h1⟩ := h
  simp
theorem Gr.any {a b : Sto} (h : Gr a b) {t : SO → Bool} (e : a.any t = true) : b.any t = true := by
  obtain ⟨m, rfl, h1⟩ := h
  rw [List.any_append, e]
  rfl
theorem cf_ints : ∀ l : List Nat, dsCf (l.map natD) = true
  | [] => rfl
  | k :: l => by
    have ih := cf_ints l
    show (D.cf (natD k) && dsCf (l.map natD)) = true
    rw [ih]
    rfl
theorem cf_enc (i : Ins) : D.cf i.enc = true := by cases i <;> rfl
theorem cf_encs : ∀ c : List Ins, dsCf (c.map Ins.enc) = true
  | [] => rfl
  | i :: c => by
    show (D.cf i.enc && dsCf (c.map Ins.enc)) = true
    rw [cf_enc, cf_encs c]
    rfl
theorem cf_optN (o : Option Nat) : D.cf (optN o) = true := by cases o <;> rfl
theorem cf_step (s : SM) : SO.cf (stepSO s) = true := by
  show dsCf [.tup [natD s.c, natD s.p], s.ins.enc, .tup (s.waits.map natD), .tup (s.behind.map natD), optN s.src] = true
  simp only [dsCf, D.cf, cf_enc, cf_ints, cf_optN, natD, Bool.and_true]
/-- the steps stand at the places rs -/
structure SAt (st : Sto) (rs : List Nat) (S : List SM) : Prop where
  len : rs.length = S.length
  at_ : ∀ (k r : Nat) (s : SM), rs[k]? = some r → S[k]? = some s → st[r]? = some (stepSO s)
theorem SAt.gr {a b : Sto} {rs : List Nat} {S : List SM} (h : SAt a rs S) (g : Gr a b) : SAt b rs S := ⟨h.len, fun k r s h1 h2 => g.get (h.at_ k r s h1 h2)⟩
theorem SAt.keep {a b : Sto} {rs : List Nat} {S : List SM} (h : SAt a rs S) (g : ∀ n o, n ∈ rs → a[n]? = some o → b[n]? = some o) : SAt b rs S := ⟨h.len, fun k r s h1 h2 => g r _ (List.mem_of_getElem? h1) (h.at_ k r s h1 h2)⟩
theorem SAt.append {st : Sto} {rs rs' : List Nat} {S S' : List SM} (h : SAt st rs S) (h' : SAt st rs' S') : SAt st (rs ++ rs') (S ++ S') := by
  refine ⟨by simp [h.len, h'.len], fun k r s h1 h2 => ?_⟩
  by_cases hk : k < rs.length
  · rw [List.getElem?_append_left hk] at h1
    rw [List.getElem?_append_left (by rw [← h.len]; exact hk)] at h2
    exact h.at_ k r s h1 h2
  · rw [List.getElem?_append_right (by omega)] at h1
    rw [List.getElem?_append_right (by rw [← h.len]; omega), ← h.len] at h2
    exact h'.at_ _ r s h1 h2
/-! ### a state, what can come -/
def encW : Option Int → D
  | none => .non
  | some i => .int i
def encWs (w : List (Option Int)) : D := .tup (w.map encW)
def encSt (w : List (Option Int)) (cells : List Int) : D := .tup [encWs w, .tup (cells.map D.int)]
def wAt (w : List (Option Int)) (k : Nat) : Option Int := (w[k]?).join
def usedM (s : SM) (w : List (Option Int)) : Option Int := match s.src with
  | none => some 0
  | some k => wAt w k
def endsM (s : SM) (w : List (Option Int)) : Bool := match s.ins with
  | .gd _ n => !decide (usedM s w = some n)
  | _ => false
def writtenM (s : SM) (w : List (Option Int)) : Option Int := match s.ins with
  | .wr _ n => some n
  | _ => usedM s w
def canM (s : SM) (w : List (Option Int)) : Bool := s.waits.all (fun k => (wAt w k).isSome) && (!endsM s w || s.behind.all fun k => (wAt w k).isNone)
def canAt (S : List SM) (w : List (Option Int)) (k : Nat) : Bool := match S[k]? with
  | some s => canM s w
  | none => false
def nowM (S : List SM) (w : List (Option Int)) : List Nat := (List.range S.length).filter fun k => (wAt w k).isNone && canAt S w k
theorem canAt_at {S : List SM} {w : List (Option Int)} {k : Nat} {s : SM} (h : S[k]? = some s) : canAt S w k = canM s w := by
  unfold canAt
  rw [h]
/-- a step speaks of words that are there -/
structure SIn (N : Nat) (s : SM) : Prop where
  waits : ∀ k ∈ s.waits, k < N
  behind : ∀ k ∈ s.behind, k < N
  src : ∀ k, s.src = some k → k < N
  ok : s.ins.ok
theorem encW_ok (o : Option Int) : okD (encW o) = true := by cases o <;> simp [encW]
theorem encW_eq (o : Option Int) (n : Int) : eqD (encW o) (.int n) = decide (o = some n) := by
  cases o with
  | none => simp [encW]
  | some k =>
    simp only [encW, q_int, Option.some.injEq]
    by_cases h : k = n <;> simp [h]
theorem ws_at {w : List (Option Int)} {k : Nat} (h : k < w.length) : atI (w.map encW) (k : Int) = some (encW (wAt w k)) := by
  refine atI_nat ?_
  rw [List.getElem?_map, List.getElem?_eq_getElem h]
  simp [wAt, List.getElem?_eq_getElem h]
theorem is_non (o : Option Int) (st : Sto) : mIs (encW o) .non st = some (.bl o.isNone) := by cases o <;> rfl
theorem isnot_non (o : Option Int) (st : Sto) : mIsNot (encW o) .non st = some (.bl o.isSome) := by cases o <;> rfl
theorem isnot_optN (o : Option Nat) (st : Sto) : mIsNot (optN o) .non st = some (.bl o.isSome) := by cases o <;> rfl
theorem is_optN (o : Option Nat) (st : Sto) : mIs (optN o) .non st = some (.bl o.isNone) := by cases o <;> rfl
section
variable (s : SM)
@[simp] theorem lk_event : (stepL s).lookup ("event" : Str) = some (.tup [natD s.c, natD s.p]) := by simp [stepL, List.lookup]
@[simp] theorem lk_ins : (stepL s).lookup ("instruction" : Str) = some s.ins.enc := by simp [stepL, List.lookup]
@[simp] theorem lk_waits : (stepL s).lookup ("waits" : Str) = some (.tup (s.waits.map natD)) := by simp [stepL, List.lookup]
@[simp] theorem lk_behind : (stepL s).lookup ("behind" : Str) = some (.tup (s.behind.map natD)) := by simp [stepL, List.lookup]
@[simp] theorem lk_src : (stepL s).lookup ("source" : Str) = some (optN s.src) := by simp [stepL, List.lookup]
end
/-! ### a step taken, the end -/
def takenM (S : List SM) (w : List (Option Int)) (cells : List Int) (s : SM) (y : Int) : Option Int := match s.src with
  | some k => if (wAt w k).isNone then (match S[k]? with
    | some s' => writtenM s' w
    | none => none) else cells[y.toNat]?
  | none => cells[y.toNat]?
def leftM (w : List (Option Int)) (l : List Nat) : List (Option Int) := l.foldl (fun w j => w.set j (some (-1))) w
def behindS (S : List SM) (w : List (Option Int)) (cells : List Int) (k : Nat) (s : SM) : List (Option Int) × List Int := match s.ins with
  | .rd _ y => (w.set k (takenM S w cells s y), cells)
  | .wr x n => (w.set k (some 0), cells.set x.toNat n)
  | .cp x _ => (w.set k (some 0), cells.set x.toNat ((usedM s w).getD 0))
  | _ => (if endsM s w then leftM (w.set k (some 0)) s.behind else w.set k (some 0), cells)
def behindM (S : List SM) (w : List (Option Int)) (cells : List Int) (k : Nat) : List (Option Int) × List Int := match S[k]? with
  | none => (w, cells)
  | some s => behindS S w cells k s
theorem behindM_at {S : List SM} {w : List (Option Int)} {cells : List Int} {k : Nat} {s : SM} (h : S[k]? = some s) : behindM S w cells k = behindS S w cells k s := by
  unfold behindM
  rw [h]
def overM (w : List (Option Int)) : Bool := w.all Option.isSome
theorem leftM_len : ∀ (l : List Nat) (w : List (Option Int)), (leftM w l).length = w.length
  | [], w => rfl
  | j :: l, w => by
    show (leftM (w.set j (some (-1))) l).length = _
    rw [leftM_len l, List.length_set]
theorem encW_set (w : List (Option Int)) (k : Nat) (o : Option Int) : (w.map encW).set k (encW o) = (w.set k o).map encW := by rw [List.map_set]
section
variable {st : Sto} {a b x : SO}
theorem get_L : (st ++ [a, b])[st.length]? = some a := by simp
theorem get_L1 : (st ++ [a, b])[st.length + 1]? = some b := by simp
theorem set_L : (st ++ [a, b]).set st.length x = st ++ [x, b] := by simp
theorem set_L1 : (st ++ [a, b]).set (st.length + 1) x = st ++ [a, x] := by simp
end
theorem cf_ws (w : List (Option Int)) : dsCf (w.map encW) = true := by
  rw [dsCf_all, List.all_map, List.all_eq_true]
  intro o _
  cases o <;> rfl
theorem cf_is (l : List Int) : dsCf (l.map D.int) = true := by
  rw [dsCf_all, List.all_map, List.all_eq_true]
  intro o _
  rfl
theorem gr_two (st : Sto) (w : List (Option Int)) (c : List Int) : Gr st (st ++ [.lst (w.map encW), .lst (c.map D.int)]) := ⟨_, rfl, by
  show (SO.cf _ && (SO.cf _ && true)) = true
  simp only [SO.cf, cf_ws, cf_is, Bool.and_true]⟩
theorem non_in {w : List (Option Int)} (st : Sto) : mIn true .non (encWs w) st = some (.bl (overM w)) := by
  have h1 : (w.map encW).all (okB 63) = true := by
    rw [List.all_map, List.all_eq_true]
    intro o _
    cases o <;> simp [encW]
  have h2 : ((w.map encW).any fun z => eqD z .non) = !overM w := by
    unfold overM
    rw [List.any_map]
    induction w with
    | nil => rfl
    | cons o w ih =>
      have ih' := ih (by
        rw [List.map_cons, List.all_cons, Bool.and_eq_true] at h1
        exact h1.2)
      rw [List.any_cons, List.all_cons, ih', Bool.not_and]
      cases o <;> simp [encW]
  unfold encWs
  rw [in_tup, ok_tup, h1, h2]
  simp
theorem range2_at {fs : G (List D)} {ρ : DL.Env} {st s1 : Sto} {a b : Int} (h : fs ρ st = .ok [.int a, .int b] s1) (ha : -1000000 ≤ a ∧ a ≤ 1000000) (hb : -1000000 ≤ b ∧ b ≤ 1000000) : gRange2 fs ρ st = .ok (intsD a (b - a).toNat) s1 := by
  have e : gRange2 fs ρ st = (fs ρ st).bind kRange2 := rfl
  rw [e, h]
  have e2 : mRange2 [.int a, .int b] = some (intsD a (b - a).toNat) := by rw [o_rg2, if_pos ⟨ha, hb⟩]
  have e3 : (Out.ok [D.int a, D.int b] s1).bind kRange2 = oout (mRange2 [.int a, .int b]) s1 := rfl
  rw [e3, e2]
  rfl
/-- whether the second waits for the first -/
def mustM (sub : List Str) (c : List Ins) (i j : Nat) : Bool := match c[i]?, c[j]? with
  | some a, some b => keptB sub c i j a b || wB sub c i j b
  | _, _ => false
theorem stepsFrom_len (W : List Ins → Nat → Nat → Bool) : ∀ (p : List (List Ins)) (n s : Nat), (stepsFrom W n s p).length = (p.map List.length).sum
  | [], _, _ => rfl
  | c :: p, n, s => by
    rw [stepsFrom, List.length_append, List.length_map, List.length_range, stepsFrom_len W p, List.map_cons, List.sum_cons]
theorem range'_app (a m n : Nat) : List.range' a m ++ List.range' (a + m) n = List.range' a (m + n) := by
  rw [← List.range'_append]
  simp
theorem cf_refs (l : List Nat) : dsCf (l.map D.ref) = true := by
  rw [dsCf_all, List.all_map, List.all_eq_true]
  intro o _
  rfl
theorem gr_steps (st : Sto) (S : List SM) : Gr st (st ++ S.map stepSO) := ⟨_, rfl, by
  show (S.map stepSO).all SO.cf = true
  rw [List.all_map, List.all_eq_true]
  intro s _
  exact cf_step s⟩
theorem sat_new (st : Sto) (S : List SM) : SAt (st ++ S.map stepSO) (List.range' st.length S.length) S := by
  refine ⟨by simp, fun k r s h1 h2 => ?_⟩
  have hk : k < S.length := (List.getElem?_eq_some_iff.mp h2).1
  have e : r = st.length + k := by
    rw [List.getElem?_range' hk] at h1
    have := Option.some.inj h1
    omega
  subst e
  rw [List.getElem?_append_right (by omega), Nat.add_sub_cancel_left, List.getElem?_map, h2]
  rfl
/-! ### events, rows of them, the registers at the end -/
def encE (e : Nat × Nat) : D := .tup [natD e.1, natD e.2]
def isE (s : SM) (e : Nat × Nat) : Bool := decide (s.c = e.1) && decide (s.p = e.2)
theorem eqE (s : SM) (e : Nat × Nat) : eqD (.tup [natD s.c, natD s.p]) (encE e) = isE s e := by
  obtain ⟨a, b⟩ := e
  unfold encE isE natD
  simp only [q_tup, qs_cons, q_int, qs_nil, Bool.and_true]
  congr 1
  · by_cases h : s.c = a
    · simp [h]
    · have : ¬ (s.c : Int) = a := by omega
      simp [h, this]
  · by_cases h : s.p = b
    · simp [h]
    · have : ¬ (s.p : Int) = b := by omega
      simp [h, this]
/-- the step of an event -/
structure IsAt (S : List SM) (e : Nat × Nat) (k : Nat) (s : SM) : Prop where
  at_ : S[k]? = some s
  is : isE s e = true
  first : ∀ j s', j < k → S[j]? = some s' → isE s' e = false
/-- a row of events that come -/
inductive RunTo (S : List SM) : List (Nat × Nat) → List (Option Int) → List Int → List (Option Int) → List Int → Prop
  | nil {w : List (Option Int)} {c : List Int} : RunTo S [] w c w c
  | cons {e : Nat × Nat} {es : List (Nat × Nat)} {w w' : List (Option Int)} {c c' : List Int} {k : Nat} {s : SM} : IsAt S e k s → k ∈ nowM S w → (∀ x r, s.ins = .cp x r → (usedM s w).isSome = true) → RunTo S es (behindM S w c k).1 (behindM S w c k).2 w' c' → RunTo S (e :: es) w c w' c'
theorem behind_len {S : List SM} {w : List (Option Int)} {c : List Int} {k : Nat} : (behindM S w c k).1.length = w.length ∧ (behindM S w c k).2.length = c.length := by
  unfold behindM
  split
  · exact ⟨rfl, rfl⟩
  · rename_i s _
    unfold behindS
    split
    · exact ⟨List.length_set, rfl⟩
    · exact ⟨List.length_set, List.length_set⟩
    · exact ⟨List.length_set, List.length_set⟩
    · refine ⟨?_, rfl⟩
      split
      · rw [leftM_len, List.length_set]
      · exact List.length_set
def regStep (R : List (List Int)) (so : SM × Option Int) : List (List Int) := match so.1.ins with
  | .rd r _ => if so.2 = some (-1) then R else R.set so.1.c ((R.getD so.1.c []).set r.toNat (so.2.getD 0))
  | _ => R
def regsM (S : List SM) (w : List (Option Int)) (R : List (List Int)) : List (List Int) := (S.zip w).foldl regStep R
def encR (R : List (List Int)) : D := .tup (R.map fun l => D.tup (l.map D.int))
def encO (R : List (List Int)) (cells : List Int) : D := .tup [encR R, .tup (cells.map D.int)]
def regSO (l : List Int) : SO := .lst (l.map D.int)
def evOf (S : List SM) (k : Nat) : Nat × Nat := match S[k]? with
  | some s => (s.c, s.p)
  | none => (0, 0)
theorem srcM_lt {c : List Ins} {p m : Nat} {i : Ins} (h : srcM c p i = some m) : m < p := by
  cases i <;> simp only [srcM, reduceCtorEq] at h
  all_goals exact (lastP_lt h).1
theorem sin_from {W : List Ins → Nat → Nat → Bool} : ∀ (p : List (List Ins)) (n s0 N : Nat), (∀ c ∈ p, ∀ i ∈ c, i.ok) → s0 + (p.map List.length).sum ≤ N → ∀ s ∈ stepsFrom W n s0 p, SIn N s
  | [], _, _, _, _, _, s, h => by cases h
  | c :: p, n, s0, N, hok, hN, s, h => by
    simp only [List.map_cons, List.sum_cons] at hN
    rcases List.mem_append.mp h with h | h
    · obtain ⟨i, hi, rfl⟩ := List.mem_map.mp h
      have hi := List.mem_range.mp hi
      refine ⟨fun k hk => ?_, fun k hk => ?_, fun k hk => ?_, ?_⟩
      · obtain ⟨j, hj, rfl⟩ := List.mem_map.mp hk
        have := List.mem_range.mp (List.mem_filter.mp hj).1
        omega
      · obtain ⟨j, hj, rfl⟩ := List.mem_map.mp hk
        obtain ⟨j', hj', rfl⟩ := List.mem_map.mp hj
        have := List.mem_range.mp hj'
        omega
      · have hk : (srcM c i (c.getD i .fn)).map (s0 + ·) = some k := hk
        obtain ⟨m, hm, rfl⟩ := Option.map_eq_some_iff.mp hk
        have := srcM_lt hm
        omega
      · show (c.getD i .fn).ok
        rw [List.getD_eq_getElem?_getD, List.getElem?_eq_getElem hi]
        exact hok c List.mem_cons_self _ (List.getElem_mem hi)
    · exact sin_from p (n + 1) (s0 + c.length) N (fun d hd => hok d (List.mem_cons_of_mem _ hd)) (by omega) s h
theorem gr_regs (st : Sto) (R : List (List Int)) : Gr st (st ++ R.map regSO) := ⟨_, rfl, by
  show (R.map regSO).all SO.cf = true
  rw [List.all_map, List.all_eq_true]
  intro s _
  exact cf_is s⟩
theorem regs_at {st : Sto} {R : List (List Int)} {c : Nat} {l : List Int} (h : R[c]? = some l) : (st ++ R.map regSO)[st.length + c]? = some (.lst (l.map D.int)) := by
  rw [List.getElem?_append_right (by omega), Nat.add_sub_cancel_left, List.getElem?_map, h]
  rfl
theorem regs_set {st : Sto} {R : List (List Int)} {c : Nat} {l : List Int} (h : c < R.length) : (st ++ R.map regSO).set (st.length + c) (.lst (l.map D.int)) = st ++ (R.set c l).map regSO := by
  have e := List.set_append_right (s := st) (t := R.map regSO) (st.length + c) (.lst (l.map D.int)) (by omega)
  rw [Nat.add_sub_cancel_left] at e
  refine Eq.trans e ?_
  rw [List.map_set]
  rfl
theorem regStep_len {R : List (List Int)} {so : SM × Option Int} : (regStep R so).length = R.length := by
  unfold regStep
  split
  · split
    · rfl
    · exact List.length_set
  · rfl
theorem regStep_two {R : List (List Int)} {so : SM × Option Int} (h : ∀ l ∈ R, l.length = 2) (hc : so.1.c < R.length) : ∀ l ∈ regStep R so, l.length = 2 := by
  unfold regStep
  split
  · split
    · exact h
    · intro l hl
      rcases List.mem_or_eq_of_mem_set hl with h1 | h1
      · exact h l h1
      · rw [h1, List.length_set, List.getD_eq_getElem?_getD, List.getElem?_eq_getElem hc]
        exact h _ (List.getElem_mem hc)
  · exact h
theorem c_from {W : List Ins → Nat → Nat → Bool} : ∀ (p : List (List Ins)) (n s0 : Nat), ∀ s ∈ stepsFrom W n s0 p, s.c < n + p.length
  | [], _, _, s, h => by cases h
  | c :: p, n, s0, s, h => by
    rw [List.length_cons]
    rcases List.mem_append.mp h with h | h
    · obtain ⟨i, hi, rfl⟩ := List.mem_map.mp h
      show n < _
      omega
    · have := c_from p (n + 1) (s0 + c.length) s h
      omega
theorem tup_at {st : Sto} {n : Nat} {l : List D} (h : st[n]? = some (.lst l)) (hl : l.length ≤ LIM) : mTuple [.ref n] st = some (.tup l) := by
  simp [mTuple, h, hl]
theorem putn_at {st : Sto} {n : Nat} {l : List D} {i : Int} {v : D} {ρ : DL.Env} (h : st[n]? = some (.lst l)) (h0 : 0 ≤ i) (hi : i.toNat < l.length) : putOut (.ref n) (.int i) v ρ st = .ok (.nx ρ) (st.set n (.lst (l.set i.toNat v))) := by
  refine put_at h ?_
  unfold ixN
  rw [if_pos h0, if_pos (by omega)]
end CM

set_option Elab.async false
set_option linter.all false
set_option maxRecDepth 100000
set_option maxHeartbeats 4000000
/-! # The law's own run, as lists; where it lies: nothing of a program's text -/
namespace CM
open PySem PySem.Spec L2 DL
open PyProof.Rows hiding St
structure RunM where
  done : List (List Bool)
  cells : List Int
  took : List (List (Int × Int))
  ends : List Int
def tookK (l : List (Int × Int)) : List (Key × D) := l.map fun x => ((Sum.inl x.1 : Key), D.int x.2)
def runK (sub : List Str) (p : List (List Ins)) (b : Nat) : List (Key × D) :=
  [(.inr "design", .tup (sub.map D.str)), (.inr "program", encP p), (.inr "done", .lst ((List.range' b p.length).map D.ref)), (.inr "cells", .ref (b + p.length)), (.inr "took", .lst ((List.range' (b + p.length + 2) p.length).map D.ref)), (.inr "ends", .ref (b + 2 * p.length + 2))]
/-- the run lies at b and behind -/
structure RunAt (st : Sto) (b : Nat) (sub : List Str) (p : List (List Ins)) (R : RunM) : Prop where
  d : st[b + p.length + 1]? = some (.dK (runK sub p b))
  nd : R.done.length = p.length
  dn : ∀ (c : Nat) (l : List Bool), R.done[c]? = some l → st[b + c]? = some (.lst (l.map D.bl))
  cl : st[b + p.length]? = some (.lst (R.cells.map D.int))
  nt : R.took.length = p.length
  tk : ∀ (c : Nat) (l : List (Int × Int)), R.took[c]? = some l → st[b + p.length + 2 + c]? = some (.dK (tookK l))
  ne : R.ends.length = p.length
  en : st[b + 2 * p.length + 2]? = some (.lst (R.ends.map D.int))
theorem RunAt.gr {st st' : Sto} {b : Nat} {sub : List Str} {p : List (List Ins)} {R : RunM} (h : RunAt st b sub p R) (g : Gr st st') : RunAt st' b sub p R :=
  ⟨g.get h.d, h.nd, fun c l e => g.get (h.dn c l e), g.get h.cl, h.nt, fun c l e => g.get (h.tk c l e), h.ne, g.get h.en⟩
theorem RunAt.keep {st : Sto} {b n : Nat} {o : SO} {sub : List Str} {p : List (List Ins)} {R : RunM} (h : RunAt st b sub p R) (hn : n < b) : RunAt (st.set n o) b sub p R :=
  ⟨by rw [List.getElem?_set_ne (by omega)]; exact h.d, h.nd, fun c l e => by rw [List.getElem?_set_ne (by omega)]; exact h.dn c l e, by rw [List.getElem?_set_ne (by omega)]; exact h.cl, h.nt, fun c l e => by rw [List.getElem?_set_ne (by omega)]; exact h.tk c l e, h.ne, by rw [List.getElem?_set_ne (by omega)]; exact h.en⟩
section
variable {sub : List Str} {p : List (List Ins)} {b : Nat}
@[simp] theorem rk_design : luK (runK sub p b) (.inr "design") = some (.tup (sub.map D.str)) := by simp [runK, luK]
@[simp] theorem rk_program : luK (runK sub p b) (.inr "program") = some (encP p) := by simp [runK, luK]
@[simp] theorem rk_done : luK (runK sub p b) (.inr "done") = some (.lst ((List.range' b p.length).map D.ref)) := by simp [runK, luK]
@[simp] theorem rk_cells : luK (runK sub p b) (.inr "cells") = some (.ref (b + p.length)) := by simp [runK, luK]
@[simp] theorem rk_took : luK (runK sub p b) (.inr "took") = some (.lst ((List.range' (b + p.length + 2) p.length).map D.ref)) := by simp [runK, luK]
@[simp] theorem rk_ends : luK (runK sub p b) (.inr "ends") = some (.ref (b + 2 * p.length + 2)) := by simp [runK, luK]
theorem core_at {c : Nat} {core : List Ins} (h : p[c]? = some core) (st : Sto) : mIx (encP p) (natD c) st = some (encC core) := by
  show atI (p.map encC) _ = _
  exact atI_nat (by rw [List.getElem?_map, h]; rfl)
theorem refs_at {a n c : Nat} (h : c < n) (st : Sto) : mIx (.lst ((List.range' a n).map D.ref)) (natD c) st = some (.ref (a + c)) := by
  show atI _ _ = _
  exact atI_nat (by rw [List.getElem?_map, List.getElem?_range' h]; simp)
end
theorem lu_took (l : List (Int × Int)) (i : Int) : luK (tookK l) (.inl i) = (l.lookup i).map D.int := by
  induction l with
  | nil => rfl
  | cons x l ih =>
    obtain ⟨j, v⟩ := x
    rw [List.lookup_cons]
    show (if (Sum.inl j : Key) = .inl i then some (D.int v) else luK (tookK l) (.inl i)) = _
    by_cases h : j = i
    · subst h
      simp
    · rw [if_neg (fun e => h (Sum.inl.inj e)), ih, show (i == j) = false from beq_false_of_ne (Ne.symm h)]
/-! ### what the law's run answers -/
def wordR (R : RunM) (c : Nat) (core : List Ins) (place : Nat) (name : Int) : Int := match lastP (rdP name) core place with
  | some m => ((R.took.getD c []).lookup (m : Int)).getD 0
  | none => 0
def writtenR (R : RunM) (c : Nat) (core : List Ins) (place : Nat) : Ins → Int
  | .wr _ n => n
  | .cp _ r => wordR R c core place r
  | _ => 0
def doneR (R : RunM) (c : Nat) : List Bool := R.done.getD c []
def dAt (R : RunM) (c i : Nat) : Bool := (doneR R c).getD i false
def endsR (R : RunM) (c : Nat) (core : List Ins) (place : Nat) : Ins → Bool
  | .gd r n => !decide (wordR R c core place r = n)
  | _ => false
def canR (sub : List Str) (R : RunM) (c : Nat) (core : List Ins) (place : Nat) (i : Ins) : Bool :=
  !dAt R c place && decide ((place : Int) ≤ R.ends.getD c 0) && ((List.range place).all fun j => dAt R c j || !mustM sub core j place) && (!endsR R c core place i || !((doneR R c).drop (place + 1)).contains true)
def overR (p : List (List Ins)) (R : RunM) : Bool := (List.range p.length).all fun c => !((doneR R c).take ((R.ends.getD c 0 + 1).toNat)).contains false
theorem cut_drop {l : List D} {k : Nat} (h : k ≤ l.length) : DL.cutD l (some (k : Int)) none = l.drop k := by
  unfold DL.cutD
  rw [HT.sIx_nat, HT.sIx_none, Nat.min_eq_left h, List.take_of_length_le (Nat.le_of_eq List.length_drop)]
theorem cut_take {l : List D} {k : Nat} : DL.cutD l none (some (k : Int)) = l.take k := by
  unfold DL.cutD
  rw [HT.sIx_nat, HT.sIx_none, List.drop_zero, Nat.sub_zero, List.take_eq_take_iff]
  omega
theorem bl_in (t : Bool) (l : List Bool) : ((l.map D.bl).any fun z => eqD z (.bl t)) = l.contains t := by
  rw [List.any_map]
  induction l with
  | nil => rfl
  | cons x l ih =>
    rw [List.any_cons, ih, List.contains_cons]
    congr 1
    show eqD (.bl x) (.bl t) = (t == x)
    rw [q_bl]
    cases x <;> cases t <;> rfl
theorem bls_okB (n : Nat) (l : List Bool) : (l.map D.bl).all (okB n) = true := by
  rw [List.all_map, List.all_eq_true]
  intro x _
  exact okB_bl
theorem nats_okB (n : Nat) (l : List Nat) : (l.map natD).all (okB n) = true := by
  rw [List.all_map, List.all_eq_true]
  intro x _
  exact okB_int
theorem ne_nil (l : List Nat) (st : Sto) : mNe (.lst (l.map natD)) (.lst []) st = some (.bl !l.isEmpty) := by
  rw [o_ne, ok_lst, nats_okB]
  cases l with
  | nil => simp
  | cons x l => simp
/-- each core's marks are as many as its instructions -/
def RLen (p : List (List Ins)) (R : RunM) : Prop := ∀ (c : Nat) (core : List Ins), p[c]? = some core → (doneR R c).length = core.length
theorem RunAt.done {st : Sto} {b : Nat} {sub : List Str} {p : List (List Ins)} {R : RunM} (h : RunAt st b sub p R) {c : Nat} (hc : c < p.length) : st[b + c]? = some (.lst ((doneR R c).map D.bl)) := by
  refine h.dn c _ ?_
  unfold doneR
  rw [List.getD_eq_getElem?_getD, List.getElem?_eq_getElem (by rw [h.nd]; exact hc)]
  rfl
theorem RunAt.took' {st : Sto} {b : Nat} {sub : List Str} {p : List (List Ins)} {R : RunM} (h : RunAt st b sub p R) {c : Nat} (hc : c < p.length) : st[b + p.length + 2 + c]? = some (.dK (tookK (R.took.getD c []))) := by
  refine h.tk c _ ?_
  rw [List.getD_eq_getElem?_getD, List.getElem?_eq_getElem (by rw [h.nt]; exact hc)]
  rfl
theorem RunAt.end_at {st : Sto} {b : Nat} {sub : List Str} {p : List (List Ins)} {R : RunM} (h : RunAt st b sub p R) {c : Nat} (hc : c < p.length) : mIx (.ref (b + 2 * p.length + 2)) (natD c) st = some (.int (R.ends.getD c 0)) := by
  rw [natD, ix_at h.en]
  refine atI_nat ?_
  rw [List.getElem?_map, List.getD_eq_getElem?_getD, List.getElem?_eq_getElem (by rw [h.ne]; exact hc)]
  rfl
theorem RunAt.mark_at {st : Sto} {b : Nat} {sub : List Str} {p : List (List Ins)} {R : RunM} (h : RunAt st b sub p R) {c j : Nat} (hc : c < p.length) (hj : j < (doneR R c).length) : mIx (.ref (b + c)) (natD j) st = some (.bl (dAt R c j)) := by
  rw [natD, ix_at (h.done hc)]
  refine atI_nat ?_
  unfold dAt
  rw [List.getElem?_map, List.getD_eq_getElem?_getD, List.getElem?_eq_getElem hj]
  rfl
def evC (sub : List Str) (R : RunM) (c : Nat) (core : List Ins) : List (Nat × Nat) := ((List.range core.length).filter fun j => canR sub R c core j (core.getD j .fn)).map fun j => (c, j)
def evsFrom (sub : List Str) (R : RunM) : Nat → List (List Ins) → List (Nat × Nat)
  | _, [] => []
  | c, core :: p => evC sub R c core ++ evsFrom sub R (c + 1) p
theorem evC_len {sub : List Str} {R : RunM} {c : Nat} {core : List Ins} : (evC sub R c core).length ≤ core.length := by
  unfold evC
  rw [List.length_map]
  exact Nat.le_trans (List.length_filter_le _ _) (by rw [List.length_range]; exact Nat.le_refl _)
theorem range1_at {fs : G (List D)} {ρ : DL.Env} {st s1 : Sto} {k : Nat} (h : fs ρ st = .ok [natD k] s1) (hk : k ≤ 1000000) : gRange1 fs ρ st = .ok ((List.range k).map natD) s1 := by
  have e0 : gRange1 fs ρ st = (fs ρ st).bind kRange1 := rfl
  have e3 : mRange1 [natD k] = some ((List.range k).map natD) := by
    rw [show natD k = .int (k : Int) from rfl, o_rg1, if_pos (by omega)]
    exact congrArg some (by simp [intsD, natD])
  rw [e0, h]
  show oout (mRange1 [natD k]) s1 = _
  rw [e3]
  rfl
theorem eq_nil (l : List Nat) (st : Sto) : mEq (.lst (l.map natD)) (.lst []) st = some (.bl l.isEmpty) := by
  rw [o_eq, ok_lst, nats_okB]
  cases l with
  | nil => simp
  | cons x l => simp
/-! ### the run at its beginning -/
def run0 (p : List (List Ins)) : RunM := ⟨p.map fun core => List.replicate core.length false, [0, 0, 0], List.replicate p.length [], List.replicate p.length 99⟩
def sto0 (sub : List Str) (p : List (List Ins)) (b : Nat) : Sto := (p.map fun core => SO.lst ((List.replicate core.length false).map D.bl)) ++ ([.lst ([0, 0, 0].map D.int), .dK (runK sub p b)] ++ (List.replicate p.length (SO.dK []) ++ [.lst ((List.replicate p.length (99 : Int)).map D.int)]))
theorem cf_strs (l : List Str) : dsCf (l.map D.str) = true := by
  rw [dsCf_all, List.all_map, List.all_eq_true]
  intro o _
  rfl
theorem cf_encP (p : List (List Ins)) : D.cf (encP p) = true := by
  show dsCf (p.map encC) = true
  rw [dsCf_all, List.all_map, List.all_eq_true]
  intro o _
  exact cf_encs o
theorem cf_bls (l : List Bool) : dsCf (l.map D.bl) = true := by
  rw [dsCf_all, List.all_map, List.all_eq_true]
  intro o _
  rfl
theorem gr_run (sub : List Str) (p : List (List Ins)) (st : Sto) (b : Nat) : Gr st (st ++ sto0 sub p b) := ⟨_, rfl, by
  show (sto0 sub p b).all SO.cf = true
  unfold sto0
  rw [List.all_append, List.all_append, List.all_append]
  have h1 : (p.map fun core => SO.lst ((List.replicate core.length false).map D.bl)).all SO.cf = true := by
    rw [List.all_map, List.all_eq_true]
    intro o _
    exact cf_bls _
  have h2 : (List.replicate p.length (SO.dK [])).all SO.cf = true := by
    rw [List.all_eq_true]
    intro o ho
    rw [List.eq_of_mem_replicate ho]
    rfl
  have h3 : SO.cf (.dK (runK sub p b)) = true := by
    show dsCf [D.tup (sub.map D.str), encP p, .lst ((List.range' b p.length).map D.ref), .ref _, .lst ((List.range' (b + p.length + 2) p.length).map D.ref), .ref _] = true
    simp only [dsCf, D.cf, cf_strs, cf_encP, cf_refs, Bool.and_true]
  have h4 : SO.cf (.lst ((List.replicate p.length (99 : Int)).map D.int)) = true := cf_is _
  rw [h1, h2]
  simp only [List.all_cons, List.all_nil, h3, h4, Bool.and_true, Bool.true_and]
  exact cf_is _⟩
theorem run_at0 (sub : List Str) (p : List (List Ins)) (st : Sto) : RunAt (st ++ sto0 sub p st.length) st.length sub p (run0 p) := by
  have g : ∀ k : Nat, (st ++ sto0 sub p st.length)[st.length + k]? = (sto0 sub p st.length)[k]? := fun k => by
    rw [List.getElem?_append_right (by omega), Nat.add_sub_cancel_left]
  have hl : (p.map fun core => SO.lst ((List.replicate core.length false).map D.bl)).length = p.length := List.length_map _
  have g2 : ∀ k : Nat, (sto0 sub p st.length)[p.length + k]? = (([.lst ([0, 0, 0].map D.int), .dK (runK sub p st.length)] ++ (List.replicate p.length (SO.dK []) ++ [.lst ((List.replicate p.length (99 : Int)).map D.int)])) : Sto)[k]? := fun k => by
    unfold sto0
    rw [List.getElem?_append_right (by omega), hl, Nat.add_sub_cancel_left]
  have g3 : ∀ k : Nat, (sto0 sub p st.length)[p.length + (2 + k)]? = ((List.replicate p.length (SO.dK []) ++ [.lst ((List.replicate p.length (99 : Int)).map D.int)]) : Sto)[k]? := fun k => by
    rw [g2, List.getElem?_append_right (by simp)]
    congr 1
    simp
  refine ⟨?_, by simp [run0], fun c l e => ?_, ?_, by simp [run0], fun c l e => ?_, by simp [run0], ?_⟩
  · rw [Nat.add_assoc, g, g2]
    rfl
  · rw [g]
    have e : (p.map fun core => List.replicate core.length false)[c]? = some l := e
    rw [List.getElem?_map, Option.map_eq_some_iff] at e
    obtain ⟨core, e1, e2⟩ := e
    subst e2
    unfold sto0
    rw [List.getElem?_append_left (by rw [hl]; exact (List.getElem?_eq_some_iff.mp e1).1), List.getElem?_map, e1]
    rfl
  · rw [g, ← Nat.add_zero p.length, g2]
    rfl
  · have e : (List.replicate p.length ([] : List (Int × Int)))[c]? = some l := e
    have hc : c < p.length := by
      have := (List.getElem?_eq_some_iff.mp e).1
      simpa using this
    rw [List.getElem?_replicate_of_lt hc] at e
    have e := Option.some.inj e
    subst e
    rw [show st.length + p.length + 2 + c = st.length + (p.length + (2 + c)) by omega, g, g3, List.getElem?_append_left (by simpa using hc), List.getElem?_replicate_of_lt hc]
    rfl
  · rw [show st.length + 2 * p.length + 2 = st.length + (p.length + (2 + p.length)) by omega, g, g3, List.getElem?_append_right (by simp), List.length_replicate, Nat.sub_self]
    rfl
/-! ### an event done -/
def setDone (R : RunM) (c place : Nat) : RunM := ⟨R.done.set c ((doneR R c).set place true), R.cells, R.took, R.ends⟩
def putT (l : List (Int × Int)) (i v : Int) : List (Int × Int) := if (l.any fun x => decide (x.1 = i)) = true then l.map (fun x => if x.1 = i then (x.1, v) else x) else l ++ [(i, v)]
def takenR (R : RunM) (c : Nat) (core : List Ins) (place : Nat) (x : Int) : Int := match lastP (wrP x) core place with
  | some m => if dAt R c m = true then R.cells.getD x.toNat 0 else writtenR R c core m (core.getD m .fn)
  | none => R.cells.getD x.toNat 0
def doR1 (R : RunM) (c : Nat) (core : List Ins) (place : Nat) : Ins → RunM
  | .rd _ x => ⟨R.done, R.cells, R.took.set c (putT (R.took.getD c []) place (takenR R c core place x)), R.ends⟩
  | .wr x n => ⟨R.done, R.cells.set x.toNat n, R.took, R.ends⟩
  | .cp x r => ⟨R.done, R.cells.set x.toNat (wordR R c core place r), R.took, R.ends⟩
  | .gd r n => if wordR R c core place r = n then R else ⟨R.done, R.cells, R.took, R.ends.set c place⟩
  | .fn => R
def doR (R : RunM) (c : Nat) (core : List Ins) (place : Nat) (i : Ins) : RunM := doR1 (setDone R c place) c core place i
theorem putT_K (l : List (Int × Int)) (i v : Int) : putKD (tookK l) (.inl i) (.int v) = tookK (putT l i v) := by
  have h1 : ((tookK l).any fun p => decide (p.1 = (Sum.inl i : Key))) = (l.any fun x => decide (x.1 = i)) := by
    unfold tookK
    rw [List.any_map]
    congr 1
    funext x
    show decide ((Sum.inl x.1 : Key) = .inl i) = decide (x.1 = i)
    exact decide_eq_decide.mpr ⟨fun e => Sum.inl.inj e, fun e => by rw [e]⟩
  unfold putKD putT
  rw [h1]
  by_cases h : (l.any fun x => decide (x.1 = i)) = true
  · rw [if_pos h, if_pos h]
    unfold tookK
    rw [List.map_map, List.map_map]
    refine List.map_congr_left fun x _ => ?_
    show (if (Sum.inl x.1 : Key) = .inl i then _ else _) = _
    by_cases e : x.1 = i
    · rw [if_pos (by rw [e])]
      show _ = ((Sum.inl (if x.1 = i then (x.1, v) else x).1 : Key), D.int (if x.1 = i then (x.1, v) else x).2)
      rw [if_pos e]
    · rw [if_neg (fun z => e (Sum.inl.inj z))]
      show _ = ((Sum.inl (if x.1 = i then (x.1, v) else x).1 : Key), D.int (if x.1 = i then (x.1, v) else x).2)
      rw [if_neg e]
  · rw [if_neg h, if_neg h]
    simp [tookK]
/-- written at b and behind, nothing else, without lambdas -/
structure Wr (b : Nat) (st st' : Sto) : Prop where
  len : st'.length = st.length
  low : ∀ n, n < b → st'[n]? = st[n]?
  cf : Cf st → Cf st'
theorem Wr.refl (b : Nat) (st : Sto) : Wr b st st := ⟨rfl, fun _ _ => rfl, id⟩
theorem Wr.trans {b : Nat} {x y z : Sto} (h : Wr b x y) (h' : Wr b y z) : Wr b x z := ⟨h'.len.trans h.len, fun n hn => (h'.low n hn).trans (h.low n hn), fun c => h'.cf (h.cf c)⟩
theorem Wr.set {b n : Nat} {st : Sto} {o : SO} (hn : b ≤ n) (ho : SO.cf o = true) : Wr b st (st.set n o) := by
  refine ⟨List.length_set, fun m hm => List.getElem?_set_ne (by omega), fun c => ?_⟩
  rw [Cf, List.all_eq_true] at c ⊢
  intro x hx
  rcases List.mem_or_eq_of_mem_set hx with h | h
  · exact c x h
  · rw [h]
    exact ho
section
variable {st : Sto} {b : Nat} {sub : List Str} {p : List (List Ins)} {R : RunM} (h : RunAt st b sub p R)
include h
theorem RunAt.sDone {c place : Nat} (hc : c < p.length) : RunAt (st.set (b + c) (.lst (((doneR R c).set place true).map D.bl))) b sub p (setDone R c place) := by
  have hlt : b + c < st.length := (List.getElem?_eq_some_iff.mp (h.done hc)).1
  refine ⟨by rw [List.getElem?_set_ne (by omega)]; exact h.d, by show (R.done.set c _).length = _; rw [List.length_set]; exact h.nd, fun c' l e => ?_, by rw [List.getElem?_set_ne (by omega)]; exact h.cl, h.nt, fun c' l e => by rw [List.getElem?_set_ne (by omega)]; exact h.tk c' l e, h.ne, by rw [List.getElem?_set_ne (by omega)]; exact h.en⟩
  have e : (R.done.set c ((doneR R c).set place true))[c']? = some l := e
  by_cases hcc : c = c'
  · subst hcc
    rw [List.getElem?_set_self (by rw [h.nd]; exact hc)] at e
    have e := Option.some.inj e
    subst e
    rw [List.getElem?_set_self hlt]
  · rw [List.getElem?_set_ne hcc] at e
    rw [List.getElem?_set_ne (by omega)]
    exact h.dn c' l e
theorem RunAt.sTook {c : Nat} {l' : List (Int × Int)} (hc : c < p.length) : RunAt (st.set (b + p.length + 2 + c) (.dK (tookK l'))) b sub p ⟨R.done, R.cells, R.took.set c l', R.ends⟩ := by
  have hlt : b + p.length + 2 + c < st.length := (List.getElem?_eq_some_iff.mp (h.took' hc)).1
  refine ⟨by rw [List.getElem?_set_ne (by omega)]; exact h.d, h.nd, fun c' l e => ?_, by rw [List.getElem?_set_ne (by omega)]; exact h.cl, by show (R.took.set c _).length = _; rw [List.length_set]; exact h.nt, fun c' l e => ?_, h.ne, by rw [List.getElem?_set_ne (by omega)]; exact h.en⟩
  · have hc' : c' < p.length := by
      rw [← h.nd]
      exact (List.getElem?_eq_some_iff.mp e).1
    rw [List.getElem?_set_ne (by omega)]
    exact h.dn c' l e
  · have e : (R.took.set c l')[c']? = some l := e
    by_cases hcc : c = c'
    · subst hcc
      rw [List.getElem?_set_self (by rw [h.nt]; exact hc)] at e
      have e := Option.some.inj e
      subst e
      rw [List.getElem?_set_self hlt]
    · rw [List.getElem?_set_ne hcc] at e
      rw [List.getElem?_set_ne (by omega)]
      exact h.tk c' l e
theorem RunAt.sCells {l : List Int} : RunAt (st.set (b + p.length) (.lst (l.map D.int))) b sub p ⟨R.done, l, R.took, R.ends⟩ := by
  refine ⟨by rw [List.getElem?_set_ne (by omega)]; exact h.d, h.nd, fun c' l e => ?_, List.getElem?_set_self (List.getElem?_eq_some_iff.mp h.cl).1, h.nt, fun c' l e => by rw [List.getElem?_set_ne (by omega)]; exact h.tk c' l e, h.ne, by rw [List.getElem?_set_ne (by omega)]; exact h.en⟩
  have hc' : c' < p.length := by
    rw [← h.nd]
    exact (List.getElem?_eq_some_iff.mp e).1
  rw [List.getElem?_set_ne (by omega)]
  exact h.dn c' l e
theorem RunAt.sEnds {l : List Int} (hl : l.length = p.length) : RunAt (st.set (b + 2 * p.length + 2) (.lst (l.map D.int))) b sub p ⟨R.done, R.cells, R.took, l⟩ := by
  refine ⟨by rw [List.getElem?_set_ne (by omega)]; exact h.d, h.nd, fun c' l e => ?_, by rw [List.getElem?_set_ne (by omega)]; exact h.cl, h.nt, fun c' l e => ?_, hl, List.getElem?_set_self (List.getElem?_eq_some_iff.mp h.en).1⟩
  · have hc' : c' < p.length := by
      rw [← h.nd]
      exact (List.getElem?_eq_some_iff.mp e).1
    rw [List.getElem?_set_ne (by omega)]
    exact h.dn c' l e
  · have hc' : c' < p.length := by
      rw [← h.nt]
      exact (List.getElem?_eq_some_iff.mp e).1
    rw [List.getElem?_set_ne (by omega)]
    exact h.tk c' l e
end
theorem cf_took (l : List (Int × Int)) : SO.cf (.dK (tookK l)) = true := by
  show dsCf ((tookK l).map (·.2)) = true
  rw [dsCf_all, List.all_map, List.all_eq_true]
  intro x hx
  obtain ⟨y, _, rfl⟩ := List.mem_map.mp hx
  rfl
/-! ### what the law's run ends with -/
def regOf (core : List Ins) (pl : Int) : Int := match core[pl.toNat]? with
  | some (.rd r _) => r
  | _ => 0
def outStep (core : List Ins) (l : List (Int × Int)) (w : List Int) (pl : Int) : List Int := w.set (regOf core pl).toNat ((l.lookup pl).getD 0)
def outC (core : List Ins) (l : List (Int × Int)) : List Int := (sortI (l.map (·.1))).foldl (outStep core l) [0, 0]
def outFrom (R : RunM) : Nat → List (List Ins) → List (List Int)
  | _, [] => []
  | c, core :: p => outC core (R.took.getD c []) :: outFrom R (c + 1) p
/-- only reads were told -/
def TKey (p : List (List Ins)) (R : RunM) : Prop := ∀ (c : Nat) (core : List Ins), p[c]? = some core → ∀ x ∈ R.took.getD c [], 0 ≤ x.1 ∧ ∃ r y, core[x.1.toNat]? = some (.rd r y)
theorem lookup_mem {l : List (Int × Int)} {i : Int} (h : i ∈ l.map (·.1)) : ∃ v, l.lookup i = some v := by
  induction l with
  | nil => cases h
  | cons x l ih =>
    rw [List.lookup_cons]
    by_cases e : i = x.1
    · exact ⟨x.2, by rw [show (i == x.1) = true from by rw [e]; exact beq_self_eq_true _]⟩
    · rw [show (i == x.1) = false from beq_false_of_ne e]
      rw [List.map_cons, List.mem_cons] at h
      exact ih (h.resolve_left e)
section
variable {st ws : Sto} {a y z : SO}
theorem get_w : (st ++ (a :: (ws ++ [y])))[st.length + (1 + ws.length)]? = some y := by
  rw [List.getElem?_append_right (by omega), Nat.add_sub_cancel_left, Nat.add_comm 1, List.getElem?_cons_succ, List.getElem?_append_right (Nat.le_refl _), Nat.sub_self]
  rfl
theorem set_w : (st ++ (a :: (ws ++ [y]))).set (st.length + (1 + ws.length)) z = st ++ (a :: (ws ++ [z])) := by
  have e := List.set_append_right (s := st) (t := a :: (ws ++ [y])) (st.length + (1 + ws.length)) z (by omega)
  rw [Nat.add_sub_cancel_left, Nat.add_comm 1, List.set_cons_succ] at e
  have e2 := List.set_append_right (s := ws) (t := [y]) ws.length z (Nat.le_refl _)
  rw [Nat.sub_self] at e2
  rw [e2] at e
  rw [Nat.add_comm 1]
  exact e
theorem get_a : (st ++ (a :: ws))[st.length]? = some a := by
  rw [List.getElem?_append_right (Nat.le_refl _), Nat.sub_self]
  rfl
theorem set_a : (st ++ (a :: ws)).set st.length z = st ++ (z :: ws) := by
  have e := List.set_append_right (s := st) (t := a :: ws) st.length z (Nat.le_refl _)
  rw [Nat.sub_self] at e
  exact e
end
end CM

set_option Elab.async false
set_option linter.all false
set_option maxRecDepth 100000
set_option maxHeartbeats 4000000
/-! # The law's run and the steps say the same: nothing of a program's text -/
namespace CM
open PySem PySem.Spec L2 DL
open PyProof.Rows hiding St
/-- the word of a place, told from the law's run -/
def wR (R : RunM) (c : Nat) (core : List Ins) (j : Nat) : Option Int := if dAt R c j = true then some (match core.getD j .fn with
    | .rd _ _ => ((R.took.getD c []).lookup (j : Int)).getD 0
    | _ => 0) else if R.ends.getD c 0 < (j : Int) then some (-1) else none
def wordsFrom (R : RunM) : Nat → List (List Ins) → List (Option Int)
  | _, [] => []
  | c, core :: p => (List.range core.length).map (wR R c core) ++ wordsFrom R (c + 1) p
/-- what holds of a core's run -/
structure JC (R : RunM) (c : Nat) (core : List Ins) : Prop where
  len : (doneR R c).length = core.length
  e0 : 0 ≤ R.ends.getD c 0
  e1 : R.ends.getD c 0 < core.length → dAt R c (R.ends.getD c 0).toNat = true
  e2 : ∀ j, dAt R c j = true → (j : Int) ≤ R.ends.getD c 0
  tk : ∀ x ∈ R.took.getD c [], 0 ≤ x.1 ∧ (∃ r y, core[x.1.toNat]? = some (.rd r y)) ∧ dAt R c x.1.toNat = true
theorem wR_done {R : RunM} {c : Nat} {core : List Ins} {j : Nat} (h : dAt R c j = true) : (wR R c core j).isSome = true := by
  unfold wR
  rw [if_pos h]
  rfl
theorem wR_some {R : RunM} {c : Nat} {core : List Ins} {j : Nat} (he : (j : Int) ≤ R.ends.getD c 0) : (wR R c core j).isSome = dAt R c j := by
  unfold wR
  cases h : dAt R c j with
  | true => rfl
  | false =>
    rw [if_neg (by simp), if_neg (by omega)]
    rfl
theorem wR_rd {R : RunM} {c : Nat} {core : List Ins} {m : Nat} {n : Int} {k : Nat} (hl : lastP (rdP n) core k = some m) (h : dAt R c m = true) : wR R c core m = some (wordR R c core k n) := by
  unfold wR wordR
  rw [if_pos h, hl]
  obtain ⟨_, ht⟩ := lastP_lt hl
  unfold tst at ht
  cases hm : core[m]? with
  | none => rw [hm] at ht; cases ht
  | some i =>
    rw [hm] at ht
    cases i <;> simp [rdP] at ht
    simp [List.getD_eq_getElem?_getD, hm]
theorem must_used {sub : List Str} {core : List Ins} {m j : Nat} {n : Int} (hl : lastP (rdP n) core j = some m) {b : Ins} (hb : core[j]? = some b) (hu : (∃ x, b = .cp x n) ∨ ∃ v, b = .gd n v) : mustM sub core m j = true := by
  have ⟨_, ht⟩ := lastP_lt hl
  unfold tst at ht
  cases hm : core[m]? with
  | none => rw [hm] at ht; cases ht
  | some i =>
    unfold mustM
    rw [hm, hb]
    show (keptB sub core m j i b || wB sub core m j b) = true
    have : usedB core m j b = true := by
      rcases hu with ⟨x, rfl⟩ | ⟨x, rfl⟩ <;> simp [usedB, hl]
    unfold keptB
    rw [this]
    rfl
section
variable {sub : List Str} {R : RunM} {c : Nat} {core : List Ins} (J : JC R c core) {S : List SM} {w : List (Option Int)} {start : Nat} (hw : ∀ i, i < core.length → wAt w (start + i) = wR R c core i) {j : Nat} {b : Ins} (hb : core[j]? = some b)
include J hw hb
theorem waits_eq (he : (j : Int) ≤ R.ends.getD c 0) : (stepM (mustM sub) c core start j).waits.all (fun k => (wAt w k).isSome) = ((List.range j).all fun i => dAt R c i || !mustM sub core i j) := by
  have hj : j < core.length := (List.getElem?_eq_some_iff.mp hb).1
  show ((((List.range j).filter fun i => mustM sub core i j).map (start + ·)).all fun k => (wAt w k).isSome) = _
  rw [List.all_map, List.all_filter]
  rw [Bool.eq_iff_iff, List.all_eq_true, List.all_eq_true]
  constructor
  · intro h i hi
    have h := h i hi
    have hi := List.mem_range.mp hi
    simp only [Function.comp] at h
    rw [hw i (by omega), wR_some (by omega)] at h
    cases h1 : dAt R c i <;> cases h2 : mustM sub core i j <;> simp [h1, h2] at h ⊢
  · intro h i hi
    have h := h i hi
    have hi := List.mem_range.mp hi
    simp only [Function.comp]
    rw [hw i (by omega), wR_some (by omega)]
    cases h1 : dAt R c i <;> cases h2 : mustM sub core i j <;> simp [h1, h2] at h ⊢
theorem used_eq {n : Int} (hu : (∃ x, b = .cp x n) ∨ ∃ v, b = .gd n v) (hws : ((List.range j).all fun i => dAt R c i || !mustM sub core i j) = true) : usedM (stepM (mustM sub) c core start j) w = some (wordR R c core j n) := by
  have hj : j < core.length := (List.getElem?_eq_some_iff.mp hb).1
  have hg : core.getD j .fn = b := by
    rw [List.getD_eq_getElem?_getD, hb]
    rfl
  have es : srcM core j (core.getD j .fn) = lastP (rdP n) core j := by
    rw [hg]
    rcases hu with ⟨x, rfl⟩ | ⟨x, rfl⟩ <;> rfl
  unfold usedM
  show (match (srcM core j (core.getD j .fn)).map (start + ·) with
    | none => some 0
    | some k => wAt w k) = _
  rw [es]
  cases e : lastP (rdP n) core j with
  | none =>
    unfold wordR
    rw [e]
    rfl
  | some m =>
    obtain ⟨hm, _⟩ := lastP_lt e
    have h1 := List.all_eq_true.mp hws m (List.mem_range.mpr hm)
    rw [must_used e hb hu] at h1
    have h1 : dAt R c m = true := by simpa using h1
    show wAt w (start + m) = _
    rw [hw m (by omega), wR_rd e h1]
theorem ends_eq (hws : ((List.range j).all fun i => dAt R c i || !mustM sub core i j) = true) : endsM (stepM (mustM sub) c core start j) w = endsR R c core j b := by
  have hg : core.getD j .fn = b := by
    rw [List.getD_eq_getElem?_getD, hb]
    rfl
  unfold endsM
  show (match core.getD j .fn with
    | .gd _ n => !decide (usedM (stepM (mustM sub) c core start j) w = some n)
    | _ => false) = _
  rw [hg]
  cases b with
  | gd r n =>
    show (!decide (usedM (stepM (mustM sub) c core start j) w = some n)) = !decide (wordR R c core j r = n)
    rw [used_eq J hw hb (n := r) (.inr ⟨n, rfl⟩) hws]
    congr 1
    exact decide_eq_decide.mpr ⟨fun e => Option.some.inj e, fun e => by rw [e]⟩
  | rd r n => rfl
  | wr r n => rfl
  | cp r n => rfl
  | fn => rfl
theorem behind_eq (hd : dAt R c j = false) (he : (j : Int) ≤ R.ends.getD c 0) : ((stepM (mustM sub) c core start j).behind.all fun k => (wAt w k).isNone) = !((doneR R c).drop (j + 1)).contains true := by
  have hj : j < core.length := (List.getElem?_eq_some_iff.mp hb).1
  show ((((List.range (core.length - (j + 1))).map fun i => j + 1 + i).map (start + ·)).all fun k => (wAt w k).isNone) = _
  rw [List.all_map, List.all_map]
  have hct : ((doneR R c).drop (j + 1)).contains true = true ↔ ∃ i, i < core.length - (j + 1) ∧ dAt R c (j + 1 + i) = true := by
    rw [List.contains_iff_mem, List.mem_iff_getElem?]
    constructor
    · rintro ⟨i, hi⟩
      rw [List.getElem?_drop] at hi
      have hl := (List.getElem?_eq_some_iff.mp hi).1
      rw [J.len] at hl
      refine ⟨i, by omega, ?_⟩
      unfold dAt
      rw [List.getD_eq_getElem?_getD, hi]
      rfl
    · rintro ⟨i, hi, h⟩
      refine ⟨i, ?_⟩
      rw [List.getElem?_drop]
      unfold dAt at h
      rw [List.getD_eq_getElem?_getD, List.getElem?_eq_getElem (by rw [J.len]; omega)] at h
      rw [List.getElem?_eq_getElem (by rw [J.len]; omega)]
      exact congrArg some h
  rw [Bool.eq_iff_iff, List.all_eq_true, Bool.not_eq_true', ← Bool.not_eq_true, hct]
  constructor
  · rintro h ⟨i, hi, hdi⟩
    have h := h i (List.mem_range.mpr hi)
    simp only [Function.comp] at h
    rw [hw _ (by omega)] at h
    have := wR_done (core := core) hdi
    cases hq : wR R c core (j + 1 + i) with
    | none => rw [hq] at this; cases this
    | some v => rw [hq] at h; cases h
  · intro h i hi
    have hi := List.mem_range.mp hi
    simp only [Function.comp]
    rw [hw _ (by omega)]
    have hdi : dAt R c (j + 1 + i) = false := by
      cases q : dAt R c (j + 1 + i) with
      | false => rfl
      | true => exact absurd ⟨i, hi, q⟩ h
    have hle : ((j + 1 + i : Nat) : Int) ≤ R.ends.getD c 0 := by
      refine Classical.byContradiction fun hn => ?_
      have hlt : R.ends.getD c 0 < core.length := by omega
      have hde := J.e1 hlt
      have he0 := J.e0
      have hne : (R.ends.getD c 0).toNat ≠ j := fun z => by rw [z, hd] at hde; cases hde
      exact h ⟨(R.ends.getD c 0).toNat - (j + 1), by omega, by rw [show j + 1 + ((R.ends.getD c 0).toNat - (j + 1)) = (R.ends.getD c 0).toNat by omega]; exact hde⟩
    have := wR_some (core := core) hle
    rw [hdi] at this
    cases hq : wR R c core (j + 1 + i) with
    | none => rfl
    | some v => rw [hq] at this; cases this
theorem can_eq (hS : S[start + j]? = some (stepM (mustM sub) c core start j)) : ((wAt w (start + j)).isNone && canAt S w (start + j)) = canR sub R c core j b := by
  have hj : j < core.length := (List.getElem?_eq_some_iff.mp hb).1
  rw [canAt_at hS, hw j hj]
  unfold canR canM
  cases hd : dAt R c j with
  | true =>
    have := wR_done (core := core) hd
    cases hq : wR R c core j with
    | none => rw [hq] at this; cases this
    | some v => rfl
  | false =>
    by_cases he : (j : Int) ≤ R.ends.getD c 0
    · have hn : (wR R c core j).isNone = true := by
        have := wR_some (core := core) he
        rw [hd] at this
        cases hq : wR R c core j with
        | none => rfl
        | some v => rw [hq] at this; cases this
      rw [hn, decide_eq_true he, waits_eq J hw hb he, behind_eq J hw hb hd he]
      cases hws : ((List.range j).all fun i => dAt R c i || !mustM sub core i j) with
      | false => rfl
      | true =>
        rw [ends_eq J hw hb hws]
        rfl
    · have hn : (wR R c core j).isNone = false := by
        unfold wR
        rw [hd, if_neg (by simp), if_pos (by omega)]
        rfl
      rw [hn, decide_eq_false he]
      rfl
end
end CM

set_option Elab.async false
set_option linter.all false
set_option maxRecDepth 100000
set_option maxHeartbeats 4000000
/-! # Places of steps; what comes, both ways -/
namespace CM
open PySem PySem.Spec L2 DL
open PyProof.Rows hiding St
def off (p : List (List Ins)) (c : Nat) : Nat := ((p.take c).map List.length).sum
def tot (p : List (List Ins)) : Nat := (p.map List.length).sum
theorem off_succ {p : List (List Ins)} {c : Nat} {core : List Ins} (h : p[c]? = some core) : off p (c + 1) = off p c + core.length := by
  unfold off
  have hl : c < p.length := (List.getElem?_eq_some_iff.mp h).1
  rw [List.take_succ, h]
  simp
theorem off_mono {p : List (List Ins)} {a b : Nat} (h : a ≤ b) : off p a ≤ off p b := by
  induction h with
  | refl => exact Nat.le_refl _
  | step h ih =>
    rename_i m
    refine Nat.le_trans ih ?_
    cases e : p[m]? with
    | some core =>
      rw [off_succ e]
      omega
    | none =>
      have hl := List.getElem?_eq_none_iff.mp e
      unfold off
      rw [List.take_of_length_le hl, List.take_of_length_le (by omega)]
      exact Nat.le_refl _
theorem off_all (p : List (List Ins)) : off p p.length = tot p := by
  unfold off tot
  rw [List.take_length]
theorem off_lt {p : List (List Ins)} {c j : Nat} {core : List Ins} (h : p[c]? = some core) (hj : j < core.length) : off p c + j < tot p := by
  have h1 := off_succ h
  have h2 : off p (c + 1) ≤ off p p.length := off_mono (List.getElem?_eq_some_iff.mp h).1
  rw [off_all] at h2
  omega
theorem off_inj {p : List (List Ins)} {c c' j j' : Nat} {core core' : List Ins} (h : p[c]? = some core) (h' : p[c']? = some core') (hj : j < core.length) (hj' : j' < core'.length) (e : off p c + j = off p c' + j') : c = c' ∧ j = j' := by
  rcases Nat.lt_trichotomy c c' with q | q | q
  · have := off_mono (p := p) (a := c + 1) (b := c') q
    rw [off_succ h] at this
    omega
  · subst q
    exact ⟨rfl, by omega⟩
  · have := off_mono (p := p) (a := c' + 1) (b := c) q
    rw [off_succ h'] at this
    omega
theorem loc : ∀ (p : List (List Ins)) (k : Nat), k < tot p → ∃ c core j, p[c]? = some core ∧ j < core.length ∧ k = off p c + j
  | [], k, h => by simp [tot] at h
  | a :: p, k, h => by
    by_cases hk : k < a.length
    · exact ⟨0, a, k, rfl, hk, by simp [off]⟩
    · obtain ⟨c, core, j, h1, h2, h3⟩ := loc p (k - a.length) (by simp [tot] at h ⊢; omega)
      refine ⟨c + 1, core, j, by simpa using h1, h2, ?_⟩
      have : off (a :: p) (c + 1) = a.length + off p c := by simp [off]
      omega
theorem steps_at {W : List Ins → Nat → Nat → Bool} : ∀ (p : List (List Ins)) (c0 s0 c j : Nat) (core : List Ins), p[c]? = some core → j < core.length → (stepsFrom W c0 s0 p)[off p c + j]? = some (stepM W (c0 + c) core (s0 + off p c) j)
  | [], _, _, _, _, _, h, _ => by simp at h
  | a :: p, c0, s0, 0, j, core, h, hj => by
    have h : a = core := Option.some.inj h
    subst h
    have : off (a :: p) 0 = 0 := rfl
    rw [this, Nat.zero_add, Nat.add_zero, Nat.add_zero]
    show ((List.range a.length).map (stepM W c0 a s0) ++ stepsFrom W (c0 + 1) (s0 + a.length) p)[j]? = _
    rw [List.getElem?_append_left (by simpa using hj), List.getElem?_map, List.getElem?_range hj]
    rfl
  | a :: p, c0, s0, c + 1, j, core, h, hj => by
    have ih := steps_at (W := W) p (c0 + 1) (s0 + a.length) c j core (by simpa using h) hj
    have : off (a :: p) (c + 1) = a.length + off p c := by simp [off]
    rw [this]
    show ((List.range a.length).map (stepM W c0 a s0) ++ stepsFrom W (c0 + 1) (s0 + a.length) p)[a.length + off p c + j]? = _
    rw [List.getElem?_append_right (by simp; omega)]
    have e : a.length + off p c + j - ((List.range a.length).map (stepM W c0 a s0)).length = off p c + j := by simp; omega
    rw [e, ih]
    congr 2 <;> omega
theorem words_len (R : RunM) : ∀ (p : List (List Ins)) (c0 : Nat), (wordsFrom R c0 p).length = tot p
  | [], _ => rfl
  | a :: p, c0 => by
    rw [wordsFrom, List.length_append, List.length_map, List.length_range, words_len R p]
    simp [tot]
theorem words_at {R : RunM} : ∀ (p : List (List Ins)) (c0 c j : Nat) (core : List Ins), p[c]? = some core → j < core.length → wAt (wordsFrom R c0 p) (off p c + j) = wR R (c0 + c) core j
  | [], _, _, _, _, h, _ => by simp at h
  | a :: p, c0, 0, j, core, h, hj => by
    have h : a = core := Option.some.inj h
    subst h
    have : off (a :: p) 0 = 0 := rfl
    rw [this, Nat.zero_add, Nat.add_zero]
    unfold wAt
    show (((List.range a.length).map (wR R c0 a) ++ wordsFrom R (c0 + 1) p)[j]?).join = _
    rw [List.getElem?_append_left (by simpa using hj), List.getElem?_map, List.getElem?_range hj]
    rfl
  | a :: p, c0, c + 1, j, core, h, hj => by
    have ih := words_at (R := R) p (c0 + 1) c j core (by simpa using h) hj
    have : off (a :: p) (c + 1) = a.length + off p c := by simp [off]
    rw [this]
    unfold wAt at ih ⊢
    show (((List.range a.length).map (wR R c0 a) ++ wordsFrom R (c0 + 1) p)[a.length + off p c + j]?).join = _
    rw [List.getElem?_append_right (by simp; omega)]
    have e : a.length + off p c + j - ((List.range a.length).map (wR R c0 a)).length = off p c + j := by simp; omega
    rw [e, ih]
    congr 1
    omega
theorem ws_ext {a b : List (Option Int)} (hl : a.length = b.length) (h : ∀ k, k < a.length → wAt a k = wAt b k) : a = b := by
  refine List.ext_getElem hl fun k h1 h2 => ?_
  have := h k h1
  unfold wAt at this
  rw [List.getElem?_eq_getElem h1, List.getElem?_eq_getElem h2] at this
  exact this
abbrev stepsOf (sub : List Str) (p : List (List Ins)) : List SM := stepsFrom (mustM sub) 0 0 p
abbrev wordsOf (p : List (List Ins)) (R : RunM) : List (Option Int) := wordsFrom R 0 p
def JR (p : List (List Ins)) (R : RunM) : Prop := ∀ (c : Nat) (core : List Ins), p[c]? = some core → JC R c core
section
variable {sub : List Str} {p : List (List Ins)} {R : RunM}
theorem st_at {c j : Nat} {core : List Ins} (h : p[c]? = some core) (hj : j < core.length) : (stepsOf sub p)[off p c + j]? = some (stepM (mustM sub) c core (off p c) j) := by
  have e := steps_at (W := mustM sub) p 0 0 c j core h hj
  rw [Nat.zero_add, Nat.zero_add] at e
  exact e
theorem wo_at {c j : Nat} {core : List Ins} (h : p[c]? = some core) (hj : j < core.length) : wAt (wordsOf p R) (off p c + j) = wR R c core j := by
  have e := words_at (R := R) p 0 c j core h hj
  rw [Nat.zero_add] at e
  exact e
theorem can_at (J : JR p R) {c j : Nat} {core : List Ins} (h : p[c]? = some core) {i : Ins} (hi : core[j]? = some i) : ((wAt (wordsOf p R) (off p c + j)).isNone && canAt (stepsOf sub p) (wordsOf p R) (off p c + j)) = canR sub R c core j i :=
  can_eq (J c core h) (fun i hi => wo_at h hi) hi (st_at h (List.getElem?_eq_some_iff.mp hi).1)
theorem now_loop (J : JR p R) : ∀ (n c : Nat), c + n = p.length → ((List.range' (off p c) (tot p - off p c)).filter fun k => (wAt (wordsOf p R) k).isNone && canAt (stepsOf sub p) (wordsOf p R) k).map (evOf (stepsOf sub p)) = evsFrom sub R c (p.drop c)
  | 0, c, h => by
    have hc : c = p.length := by omega
    subst hc
    rw [off_all, Nat.sub_self, List.drop_length]
    rfl
  | n + 1, c, h => by
    have hcl : c < p.length := by omega
    have hc : p[c]? = some p[c] := List.getElem?_eq_getElem hcl
    have ih := now_loop J n (c + 1) (by omega)
    rw [off_succ hc] at ih
    have ho : off p c + p[c].length ≤ tot p := by
      have := off_mono (p := p) (a := c + 1) (b := p.length) hcl
      rw [off_all, off_succ hc] at this
      exact this
    have e1 : tot p - off p c = p[c].length + (tot p - (off p c + p[c].length)) := by omega
    rw [e1, ← range'_app, List.filter_append, List.map_append, ih, List.drop_eq_getElem_cons hcl]
    show _ = evC sub R c p[c] ++ _
    congr 1
    unfold evC
    have e2 : List.range' (off p c) p[c].length = (List.range p[c].length).map (off p c + ·) := by
      rw [List.range_eq_range', List.map_add_range']
      rfl
    rw [e2, List.filter_map, List.map_map]
    have e3 : (List.range p[c].length).filter ((fun k => (wAt (wordsOf p R) k).isNone && canAt (stepsOf sub p) (wordsOf p R) k) ∘ (off p c + ·)) = (List.range p[c].length).filter fun j => canR sub R c p[c] j (p[c].getD j .fn) := by
      refine List.filter_congr fun j hj => ?_
      have hj := List.mem_range.mp hj
      exact can_at J hc (by rw [List.getD_eq_getElem?_getD, List.getElem?_eq_getElem hj]; rfl)
    rw [e3]
    refine List.map_congr_left fun j hj => ?_
    have hj := List.mem_range.mp (List.mem_filter.mp hj).1
    show evOf (stepsOf sub p) (off p c + j) = _
    unfold evOf
    rw [st_at hc hj]
    rfl
theorem now_evs (J : JR p R) : (nowM (stepsOf sub p) (wordsOf p R)).map (evOf (stepsOf sub p)) = evsFrom sub R 0 p := by
  have e := now_loop (sub := sub) J p.length 0 (Nat.zero_add _)
  have hl : (stepsOf sub p).length = tot p := stepsFrom_len (mustM sub) p 0 0
  rw [show off p 0 = 0 from rfl, Nat.sub_zero, List.drop_zero, ← List.range_eq_range'] at e
  unfold nowM
  rw [hl]
  exact e
end
end CM

set_option Elab.async false
set_option linter.all false
set_option maxRecDepth 100000
set_option maxHeartbeats 4000000
/-! # An event taken, both ways -/
namespace CM
open PySem PySem.Spec L2 DL
open PyProof.Rows hiding St
theorem lookup_put (l : List (Int × Int)) (i v k : Int) : (putT l i v).lookup k = if k = i then some v else l.lookup k := by
  unfold putT
  by_cases h : (l.any fun x => decide (x.1 = i)) = true
  · rw [if_pos h]
    induction l with
    | nil => cases h
    | cons x l ih =>
      rw [List.map_cons, List.lookup_cons, List.lookup_cons]
      by_cases e : x.1 = i
      · rw [if_pos e]
        by_cases hk : k = i
        · rw [if_pos hk, show (k == x.1) = true from by rw [hk, e]; exact beq_self_eq_true _]
        · rw [if_neg hk, show (k == x.1) = false from beq_false_of_ne (by rw [e]; exact hk)]
          show List.lookup k (l.map fun x => if x.1 = i then (x.1, v) else x) = List.lookup k l
          clear ih h
          induction l with
          | nil => rfl
          | cons y l ih2 =>
            rw [List.map_cons, List.lookup_cons, List.lookup_cons]
            by_cases e2 : y.1 = i
            · rw [if_pos e2, show (k == y.1) = false from beq_false_of_ne (by rw [e2]; exact hk)]
              exact ih2
            · rw [if_neg e2, ih2]
      · rw [if_neg e]
        rw [List.any_cons, show decide (x.1 = i) = false from decide_eq_false e, Bool.false_or] at h
        rw [ih h]
        by_cases hk : k = i
        · rw [if_pos hk, if_pos hk, show (k == x.1) = false from beq_false_of_ne (by rw [hk]; exact Ne.symm e)]
        · rw [if_neg hk, if_neg hk]
  · rw [if_neg h]
    have h0 : ∀ x ∈ l, x.1 ≠ i := fun x hx e => h (List.any_eq_true.mpr ⟨x, hx, decide_eq_true e⟩)
    clear h
    induction l with
    | nil =>
      rw [List.nil_append, List.lookup_cons]
      by_cases hk : k = i
      · rw [if_pos hk, show (k == i) = true from by rw [hk]; exact beq_self_eq_true _]
      · rw [if_neg hk, show (k == i) = false from beq_false_of_ne hk]
        try rfl
    | cons x l ih =>
      rw [List.cons_append, List.lookup_cons, List.lookup_cons, ih fun y hy => h0 y (List.mem_cons_of_mem _ hy)]
      by_cases hk : k = i
      · rw [if_pos hk, show (k == x.1) = false from beq_false_of_ne (by rw [hk]; exact Ne.symm (h0 x List.mem_cons_self))]
        rw [if_pos hk]
      · rw [if_neg hk, if_neg hk]
/-- each part has a place for each core -/
structure RL (p : List (List Ins)) (R : RunM) : Prop where
  nd : R.done.length = p.length
  nt : R.took.length = p.length
  ne : R.ends.length = p.length
theorem getD_set {α : Type} {l : List α} {c c' : Nat} {x d : α} (hc : c < l.length) : (l.set c x).getD c' d = if c = c' then x else l.getD c' d := by
  rw [List.getD_eq_getElem?_getD, List.getD_eq_getElem?_getD]
  by_cases h : c = c'
  · subst h
    rw [List.getElem?_set_self hc, if_pos rfl]
    rfl
  · rw [List.getElem?_set_ne h, if_neg h]
theorem dAt_set {p : List (List Ins)} {R : RunM} (L : RL p R) {c j c' j' : Nat} (hc : c < p.length) (hj : j < (doneR R c).length) : dAt (setDone R c j) c' j' = if c = c' ∧ j = j' then true else dAt R c' j' := by
  unfold dAt
  have e : doneR (setDone R c j) c' = if c = c' then (doneR R c).set j true else doneR R c' := by
    unfold setDone
    show (R.done.set c ((doneR R c).set j true)).getD c' [] = _
    rw [getD_set (by rw [L.nd]; exact hc)]
    rfl
  rw [e]
  by_cases h : c = c'
  · subst h
    rw [if_pos rfl, getD_set hj]
    by_cases h2 : j = j'
    · rw [if_pos h2, if_pos ⟨rfl, h2⟩]
    · rw [if_neg h2, if_neg fun z => h2 z.2]
  · rw [if_neg h, if_neg fun z => h z.1]
theorem wAt_set {w : List (Option Int)} {k k' : Nat} {x : Option Int} (hk : k < w.length) : wAt (w.set k x) k' = if k = k' then x else wAt w k' := by
  unfold wAt
  by_cases h : k = k'
  · subst h
    rw [List.getElem?_set_self hk, if_pos rfl]
    rfl
  · rw [List.getElem?_set_ne h, if_neg h]
theorem wAt_left : ∀ (l : List Nat) (w : List (Option Int)) (k : Nat), (∀ j ∈ l, j < w.length) → wAt (leftM w l) k = if k ∈ l then some (-1) else wAt w k
  | [], w, k, _ => by simp [leftM]
  | j :: l, w, k, h => by
    show wAt (leftM (w.set j (some (-1))) l) k = _
    rw [wAt_left l _ k fun i hi => by rw [List.length_set]; exact h i (List.mem_cons_of_mem _ hi), wAt_set (h j List.mem_cons_self)]
    by_cases h1 : k ∈ l
    · rw [if_pos h1, if_pos (List.mem_cons_of_mem _ h1)]
    · rw [if_neg h1]
      by_cases h2 : j = k
      · rw [if_pos h2, if_pos (by rw [h2]; exact List.mem_cons_self)]
      · rw [if_neg h2, if_neg fun z => (List.mem_cons.mp z).elim (fun e => h2 e.symm) h1]
/-- words of another run that differs at one place -/
theorem words_set {p : List (List Ins)} {R R' : RunM} {c j : Nat} {core : List Ins} (hc : p[c]? = some core) (hj : j < core.length) {v : Option Int} (h1 : wR R' c core j = v) (h2 : ∀ (c' j' : Nat) (core' : List Ins), p[c']? = some core' → j' < core'.length → ¬(c = c' ∧ j = j') → wR R' c' core' j' = wR R c' core' j') : (wordsOf p R).set (off p c + j) v = wordsOf p R' := by
  have hl : off p c + j < (wordsOf p R).length := by
    rw [words_len]
    exact off_lt hc hj
  refine ws_ext (by rw [List.length_set, words_len, words_len]) fun k hk => ?_
  rw [List.length_set, words_len] at hk
  obtain ⟨c', core', j', e1, e2, rfl⟩ := loc p k hk
  rw [wAt_set hl]
  by_cases h : off p c + j = off p c' + j'
  · obtain ⟨rfl, rfl⟩ := off_inj hc e1 hj e2 h
    rw [hc] at e1
    cases e1
    rw [if_pos rfl, wo_at hc hj, h1]
  · rw [if_neg h, wo_at e1 e2, wo_at e1 e2, h2 c' j' core' e1 e2]
    rintro ⟨rfl, rfl⟩
    exact h rfl
section
variable {sub : List Str} {p : List (List Ins)} {R : RunM} (L : RL p R) (J : JR p R) {c j : Nat} {core : List Ins} (hc : p[c]? = some core) {i : Ins} (hi : core[j]? = some i) (ok : ∀ i ∈ core, i.ok) (h3 : R.cells.length = 3) (hcan : canR sub R c core j i = true)
include L J hc hi ok h3 hcan
theorem can_parts : dAt R c j = false ∧ (j : Int) ≤ R.ends.getD c 0 ∧ ((List.range j).all fun i => dAt R c i || !mustM sub core i j) = true ∧ (endsR R c core j i = true → ((doneR R c).drop (j + 1)).contains true = false) := by
  have h := hcan
  unfold canR at h
  rw [Bool.and_eq_true, Bool.and_eq_true, Bool.and_eq_true, Bool.not_eq_true', decide_eq_true_eq] at h
  obtain ⟨⟨⟨a, b⟩, d⟩, e⟩ := h
  refine ⟨a, b, d, fun z => ?_⟩
  rw [z] at e
  simpa using e
theorem cp_some {x r : Int} (e : i = .cp x r) : usedM (stepM (mustM sub) c core (off p c) j) (wordsOf p R) = some (wordR R c core j r) := by
  obtain ⟨h1, h2, h4, h5⟩ := can_parts L J hc hi ok h3 hcan
  exact used_eq (J c core hc) (fun i hi => wo_at hc hi) hi (.inl ⟨x, e⟩) h4
theorem taken_eq {r x : Int} (e : i = .rd r x) : takenM (stepsOf sub p) (wordsOf p R) R.cells (stepM (mustM sub) c core (off p c) j) x = some (takenR (setDone R c j) c core j x) := by
  obtain ⟨h1, h2, h4, h5⟩ := can_parts L J hc hi ok h3 hcan
  have hj : j < core.length := (List.getElem?_eq_some_iff.mp hi).1
  have hcl : c < p.length := (List.getElem?_eq_some_iff.mp hc).1
  have hg : core.getD j .fn = i := by
    rw [List.getD_eq_getElem?_getD, hi]
    rfl
  have es : (stepM (mustM sub) c core (off p c) j).src = (lastP (wrP x) core j).map (off p c + ·) := by
    show (srcM core j (core.getD j .fn)).map _ = _
    rw [hg, e]
    rfl
  have okx := ok i (List.mem_of_getElem? hi)
  rw [e] at okx
  obtain ⟨_, x0, x2⟩ := okx
  have cx : R.cells[x.toNat]? = some (R.cells.getD x.toNat 0) := by
    rw [List.getD_eq_getElem?_getD, List.getElem?_eq_getElem (by omega)]
    rfl
  have hd1 : ∀ m, m < j → dAt (setDone R c j) c m = dAt R c m := fun m hm => by
    rw [dAt_set L hcl (by rw [(J c core hc).len]; exact hj), if_neg fun z => by omega]
  unfold takenM takenR
  rw [es]
  cases el : lastP (wrP x) core j with
  | none => exact cx
  | some m =>
    obtain ⟨hm, hsrc⟩ := src_of (Nat.le_of_lt hj) el
    have hmc : m < core.length := by omega
    have hmi : core[m]? = some (core.getD m .fn) := by
      rw [List.getD_eq_getElem?_getD, List.getElem?_eq_getElem hmc]
      rfl
    show (if (wAt (wordsOf p R) (off p c + m)).isNone = true then (match (stepsOf sub p)[off p c + m]? with
      | some s' => writtenM s' (wordsOf p R)
      | none => none) else R.cells[x.toNat]?) = some (if dAt (setDone R c j) c m = true then R.cells.getD x.toNat 0 else writtenR (setDone R c j) c core m (core.getD m .fn))
    have hsome := wR_some (R := R) (c := c) (core := core) (j := m) (by omega)
    rw [wo_at hc hmc, hd1 m hm]
    cases hdm : dAt R c m with
    | true =>
      rw [hdm] at hsome
      rw [if_neg (by cases hq : wR R c core m <;> rw [hq] at hsome <;> simp at hsome ⊢), if_pos rfl]
      exact cx
    | false =>
      rw [hdm] at hsome
      rw [if_pos (by cases hq : wR R c core m <;> rw [hq] at hsome <;> simp at hsome ⊢), if_neg (by simp), st_at hc hmc]
      show writtenM (stepM (mustM sub) c core (off p c) m) (wordsOf p R) = _
      have hnm : mustM sub core m j = false := by
        have := List.all_eq_true.mp h4 m (List.mem_range.mpr hm)
        rw [hdm] at this
        simpa using this
      have hkw : ∀ b, core[m]? = some b → keptB sub core m j b i = false := fun b hb => by
        unfold mustM at hnm
        rw [hb, hi] at hnm
        have hnm : (keptB sub core m j b i || wB sub core m j i) = false := hnm
        rw [Bool.or_eq_false_iff] at hnm
        exact hnm.1
      rcases hsrc with ⟨n, hh⟩ | ⟨n, hh⟩
      · have eg : core.getD m .fn = .wr x n := by
          rw [hmi] at hh
          exact Option.some.inj hh
        unfold writtenM
        show (match core.getD m .fn with
          | .wr _ n => some n
          | _ => usedM (stepM (mustM sub) c core (off p c) m) (wordsOf p R)) = _
        rw [eg]
        rfl
      · have eg : core.getD m .fn = .cp x n := by
          rw [hmi] at hh
          exact Option.some.inj hh
        have hown : ("own" : Str) ∈ sub := by
          have := hkw _ hh
          rw [e] at this
          simp [keptB, usedB, pairB, wrB] at this
          exact this
        have ew : writtenM (stepM (mustM sub) c core (off p c) m) (wordsOf p R) = usedM (stepM (mustM sub) c core (off p c) m) (wordsOf p R) := by
          unfold writtenM
          show (match core.getD m .fn with
            | .wr _ n => some n
            | _ => usedM (stepM (mustM sub) c core (off p c) m) (wordsOf p R)) = _
          rw [eg]
        rw [ew, eg]
        have es2 : (stepM (mustM sub) c core (off p c) m).src = (lastP (rdP n) core m).map (off p c + ·) := by
          show (srcM core m (core.getD m .fn)).map _ = _
          rw [eg]
          rfl
        unfold usedM
        rw [es2]
        show _ = some (wordR (setDone R c j) c core m n)
        have ewr : wordR (setDone R c j) c core m n = wordR R c core m n := rfl
        rw [ewr]
        cases el2 : lastP (rdP n) core m with
        | none =>
          unfold wordR
          rw [el2]
          rfl
        | some m2 =>
          obtain ⟨hm2, _⟩ := lastP_lt el2
          have hwb : mustM sub core m2 j = true := by
            unfold mustM
            rw [List.getElem?_eq_getElem (by omega : m2 < core.length), hi]
            show (keptB _ _ _ _ _ _ || wB sub core m2 j i) = true
            have : wB sub core m2 j i = true := by
              rw [e]
              simp [wB, hown, el, hh, el2]
            rw [this, Bool.or_true]
          have hdm2 : dAt R c m2 = true := by
            have := List.all_eq_true.mp h4 m2 (List.mem_range.mpr (by omega))
            rw [hwb] at this
            simpa using this
          show wAt (wordsOf p R) (off p c + m2) = _
          rw [wo_at hc (by omega), wR_rd el2 hdm2]
theorem not_later (hend : endsR R c core j i = true) {j' : Nat} (h1 : j < j') (h2 : j' < core.length) : dAt R c j' = false := by
  obtain ⟨_, _, _, h5⟩ := can_parts L J hc hi ok h3 hcan
  have h := h5 hend
  cases q : dAt R c j' with
  | false => rfl
  | true =>
    exfalso
    have hm : true ∈ (doneR R c).drop (j + 1) := by
      rw [List.mem_iff_getElem?]
      refine ⟨j' - (j + 1), ?_⟩
      rw [List.getElem?_drop, show j + 1 + (j' - (j + 1)) = j' by omega]
      unfold dAt at q
      rw [List.getD_eq_getElem?_getD, List.getElem?_eq_getElem (by rw [(J c core hc).len]; exact h2)] at q
      rw [List.getElem?_eq_getElem (by rw [(J c core hc).len]; exact h2)]
      exact congrArg some q
    rw [← List.contains_iff_mem] at hm
    rw [hm] at h
    cases h
theorem behind_do : behindM (stepsOf sub p) (wordsOf p R) R.cells (off p c + j) = (wordsOf p (doR R c core j i), (doR R c core j i).cells) := by
  obtain ⟨hd, hle, hws, hlat⟩ := can_parts L J hc hi ok h3 hcan
  have hj : j < core.length := (List.getElem?_eq_some_iff.mp hi).1
  have hcl : c < p.length := (List.getElem?_eq_some_iff.mp hc).1
  have hlen := (J c core hc).len
  have hg : core.getD j .fn = i := by
    rw [List.getD_eq_getElem?_getD, hi]
    rfl
  have d1 : ∀ c' j', dAt (setDone R c j) c' j' = if c = c' ∧ j = j' then true else dAt R c' j' := fun c' j' => dAt_set L hcl (by rw [hlen]; exact hj)
  have d2 : ∀ c' j', ¬(c = c' ∧ j = j') → dAt (setDone R c j) c' j' = dAt R c' j' := fun c' j' h => by rw [d1, if_neg h]
  have d3 : dAt (setDone R c j) c j = true := by rw [d1, if_pos ⟨rfl, rfl⟩]
  have ee : endsM (stepM (mustM sub) c core (off p c) j) (wordsOf p R) = endsR R c core j i := ends_eq (J c core hc) (fun i hi => wo_at hc hi) hi hws
  have kl : off p c + j < (wordsOf p R).length := by
    rw [words_len]
    exact off_lt hc hj
  -- a run that differs in done and cells alone
  have plain : ∀ (cells : List Int), (∀ r y, i ≠ .rd r y) → (wordsOf p R).set (off p c + j) (some 0) = wordsOf p ⟨(setDone R c j).done, cells, R.took, R.ends⟩ := fun cells hn => by
    refine words_set hc hj ?_ fun c' j' core' _ _ hne => ?_
    · have hd' : dAt ⟨(setDone R c j).done, cells, R.took, R.ends⟩ c j = true := d3
      unfold wR
      rw [if_pos hd', hg]
      cases i <;> first | rfl | exact absurd rfl (hn _ _)
    · have hd' : dAt ⟨(setDone R c j).done, cells, R.took, R.ends⟩ c' j' = dAt R c' j' := d2 c' j' hne
      unfold wR
      rw [hd']
  rw [behindM_at (st_at hc hj)]
  unfold behindS
  show (match core.getD j .fn with
    | .rd _ y => ((wordsOf p R).set (off p c + j) (takenM (stepsOf sub p) (wordsOf p R) R.cells (stepM (mustM sub) c core (off p c) j) y), R.cells)
    | .wr x n => ((wordsOf p R).set (off p c + j) (some 0), R.cells.set x.toNat n)
    | .cp x _ => ((wordsOf p R).set (off p c + j) (some 0), R.cells.set x.toNat ((usedM (stepM (mustM sub) c core (off p c) j) (wordsOf p R)).getD 0))
    | _ => (if endsM (stepM (mustM sub) c core (off p c) j) (wordsOf p R) = true then leftM ((wordsOf p R).set (off p c + j) (some 0)) (stepM (mustM sub) c core (off p c) j).behind else (wordsOf p R).set (off p c + j) (some 0), R.cells)) = _
  rw [hg, ee]
  cases hk : i with
  | rd r x =>
    have ht := taken_eq L J hc hi ok h3 hcan hk
    show ((wordsOf p R).set (off p c + j) (takenM (stepsOf sub p) (wordsOf p R) R.cells (stepM (mustM sub) c core (off p c) j) x), R.cells) = _
    rw [ht]
    refine Prod.ext ?_ rfl
    show (wordsOf p R).set (off p c + j) (some (takenR (setDone R c j) c core j x)) = wordsOf p ⟨(setDone R c j).done, R.cells, R.took.set c (putT (R.took.getD c []) j (takenR (setDone R c j) c core j x)), R.ends⟩
    refine words_set hc hj ?_ fun c' j' core' _ _ hne => ?_
    · have hd' : dAt ⟨(setDone R c j).done, R.cells, R.took.set c (putT (R.took.getD c []) j (takenR (setDone R c j) c core j x)), R.ends⟩ c j = true := d3
      unfold wR
      rw [if_pos hd', hg, hk]
      show some (((R.took.set c (putT (R.took.getD c []) j (takenR (setDone R c j) c core j x))).getD c []).lookup (j : Int) |>.getD 0) = _
      rw [getD_set (by rw [L.nt]; exact hcl), if_pos rfl, lookup_put, if_pos rfl]
      rfl
    · have hd' : dAt ⟨(setDone R c j).done, R.cells, R.took.set c (putT (R.took.getD c []) j (takenR (setDone R c j) c core j x)), R.ends⟩ c' j' = dAt R c' j' := d2 c' j' hne
      have hl : ((R.took.set c (putT (R.took.getD c []) j (takenR (setDone R c j) c core j x))).getD c' []).lookup (j' : Int) = (R.took.getD c' []).lookup (j' : Int) := by
        rw [getD_set (by rw [L.nt]; exact hcl)]
        by_cases h : c = c'
        · subst h
          rw [if_pos rfl, lookup_put, if_neg fun z => hne ⟨rfl, by omega⟩]
        · rw [if_neg h]
      unfold wR
      rw [hd', hl]
  | wr x n =>
    refine Prod.ext ?_ rfl
    exact plain _ fun _ _ z => by rw [hk] at z; cases z
  | cp x r =>
    have hu := cp_some L J hc hi ok h3 hcan hk
    show ((wordsOf p R).set (off p c + j) (some 0), R.cells.set x.toNat ((usedM (stepM (mustM sub) c core (off p c) j) (wordsOf p R)).getD 0)) = _
    rw [hu]
    refine Prod.ext ?_ rfl
    exact plain _ fun _ _ z => by rw [hk] at z; cases z
  | fn =>
    refine Prod.ext ?_ rfl
    exact plain _ fun _ _ z => by rw [hk] at z; cases z
  | gd r n =>
    have hR1 : wordR (setDone R c j) c core j r = wordR R c core j r := rfl
    by_cases hw : wordR R c core j r = n
    · have he : endsR R c core j (.gd r n) = false := by simp [endsR, hw]
      show (if endsR R c core j (.gd r n) = true then _ else _, R.cells) = _
      rw [he]
      have hR : doR R c core j (.gd r n) = ⟨(setDone R c j).done, R.cells, R.took, R.ends⟩ := by
        show (if wordR (setDone R c j) c core j r = n then setDone R c j else _) = _
        rw [hR1, if_pos hw]
        rfl
      rw [hR]
      refine Prod.ext ?_ rfl
      exact plain _ fun _ _ z => by rw [hk] at z; cases z
    · have he : endsR R c core j (.gd r n) = true := by simp [endsR, hw]
      show (if endsR R c core j (.gd r n) = true then _ else _, R.cells) = _
      rw [he]
      have hR : doR R c core j (.gd r n) = ⟨(setDone R c j).done, R.cells, R.took, R.ends.set c j⟩ := by
        show (if wordR (setDone R c j) c core j r = n then setDone R c j else _) = _
        rw [hR1, if_neg hw]
        rfl
      rw [hR]
      refine Prod.ext ?_ rfl
      show leftM ((wordsOf p R).set (off p c + j) (some 0)) (stepM (mustM sub) c core (off p c) j).behind = wordsOf p ⟨(setDone R c j).done, R.cells, R.took, R.ends.set c j⟩
      have hbl : ∀ m ∈ (stepM (mustM sub) c core (off p c) j).behind, ∃ j', m = off p c + j' ∧ j < j' ∧ j' < core.length := fun m hm => by
        obtain ⟨a, ha, rfl⟩ := List.mem_map.mp hm
        obtain ⟨b, hb, rfl⟩ := List.mem_map.mp ha
        have := List.mem_range.mp hb
        exact ⟨j + 1 + b, rfl, by omega, by omega⟩
      have hbr : ∀ j', j < j' → j' < core.length → off p c + j' ∈ (stepM (mustM sub) c core (off p c) j).behind := fun j' h1 h2 =>
        List.mem_map.mpr ⟨j', List.mem_map.mpr ⟨j' - (j + 1), List.mem_range.mpr (by omega), by omega⟩, rfl⟩
      refine ws_ext (by rw [leftM_len, List.length_set, words_len, words_len]) fun k hkk => ?_
      rw [leftM_len, List.length_set, words_len] at hkk
      obtain ⟨c', core', j', e1, e2, rfl⟩ := loc p k hkk
      rw [wAt_left _ _ _ (fun m hm => by
        obtain ⟨j2, rfl, _, h2⟩ := hbl m hm
        rw [List.length_set, words_len]
        exact off_lt hc h2), wAt_set kl, wo_at e1 e2, wo_at e1 e2]
      have hen : ∀ c', (R.ends.set c (j : Int)).getD c' 0 = if c = c' then (j : Int) else R.ends.getD c' 0 := fun c' => getD_set (by rw [L.ne]; exact hcl)
      by_cases hcc : c = c'
      · subst hcc
        rw [hc] at e1
        cases e1
        rcases Nat.lt_trichotomy j j' with q | q | q
        · rw [if_pos (hbr j' q e2)]
          have hnd := not_later L J hc hi ok h3 hcan (by rw [hk]; exact he) q e2
          have hd' : dAt ⟨(setDone R c j).done, R.cells, R.took, R.ends.set c j⟩ c j' = false := (d2 c j' fun z => by omega).trans hnd
          unfold wR
          rw [hd', if_neg (by simp), if_pos (by
            show (R.ends.set c (j : Int)).getD c 0 < _
            rw [hen, if_pos rfl]
            omega)]
        · subst q
          rw [if_neg fun z => by
            obtain ⟨j2, h1, h2, _⟩ := hbl _ z
            omega, if_pos rfl]
          have hd' : dAt ⟨(setDone R c j).done, R.cells, R.took, R.ends.set c j⟩ c j = true := d3
          unfold wR
          rw [if_pos hd', hg, hk]
        · rw [if_neg fun z => by
            obtain ⟨j2, h1, h2, _⟩ := hbl _ z
            omega, if_neg (by omega)]
          have hd' : dAt ⟨(setDone R c j).done, R.cells, R.took, R.ends.set c j⟩ c j' = dAt R c j' := d2 c j' fun z => by omega
          unfold wR
          rw [hd']
          show _ = (if _ then _ else if (R.ends.set c (j : Int)).getD c 0 < _ then _ else _)
          rw [hen, if_pos rfl, if_neg (by omega : ¬ R.ends.getD c 0 < (j' : Int)), if_neg (by omega : ¬ (j : Int) < (j' : Int))]
      · rw [if_neg fun z => by
          obtain ⟨j2, h1, h2, h4⟩ := hbl _ z
          exact hcc (off_inj e1 hc e2 h4 h1).1.symm, if_neg fun z => hcc (off_inj hc e1 hj e2 z).1]
        have hd' : dAt ⟨(setDone R c j).done, R.cells, R.took, R.ends.set c j⟩ c' j' = dAt R c' j' := d2 c' j' fun z => hcc z.1
        unfold wR
        rw [hd']
        show _ = (if _ then _ else if (R.ends.set c (j : Int)).getD c' 0 < _ then _ else _)
        rw [hen, if_neg hcc]
end
end CM

set_option Elab.async false
set_option linter.all false
set_option maxRecDepth 100000
set_option maxHeartbeats 4000000
/-! # The end, both ways -/
namespace CM
open PySem PySem.Spec L2 DL
open PyProof.Rows hiding St
theorem over_eq {p : List (List Ins)} {R : RunM} (J : JR p R) : overM (wordsOf p R) = overR p R := by
  unfold overM overR
  rw [Bool.eq_iff_iff, List.all_eq_true, List.all_eq_true]
  have key : ∀ (c : Nat) (core : List Ins), p[c]? = some core → ((!((doneR R c).take ((R.ends.getD c 0 + 1).toNat)).contains false) = true ↔ ∀ j, j < core.length → (wR R c core j).isSome = true) := fun c core hc => by
    have Jc := J c core hc
    rw [Bool.not_eq_true', ← Bool.not_eq_true, List.contains_iff_mem, List.mem_iff_getElem?]
    constructor
    · intro h j hj
      cases hd : dAt R c j with
      | true => exact wR_done hd
      | false =>
        unfold wR
        rw [hd, if_neg (by simp)]
        by_cases he : R.ends.getD c 0 < (j : Int)
        · rw [if_pos he]
          rfl
        · exfalso
          have e0 := Jc.e0
          refine h ⟨j, ?_⟩
          rw [List.getElem?_take_of_lt (by omega)]
          unfold dAt at hd
          rw [List.getD_eq_getElem?_getD, List.getElem?_eq_getElem (by rw [Jc.len]; exact hj)] at hd
          rw [List.getElem?_eq_getElem (by rw [Jc.len]; exact hj)]
          exact congrArg some hd
    · rintro h ⟨j, hj⟩
      have e0 := Jc.e0
      have hlt : j < (R.ends.getD c 0 + 1).toNat := by
        refine Classical.byContradiction fun hn => ?_
        rw [List.getElem?_take_eq_none (by omega)] at hj
        cases hj
      rw [List.getElem?_take_of_lt hlt] at hj
      have hjl := (List.getElem?_eq_some_iff.mp hj).1
      rw [Jc.len] at hjl
      have hd : dAt R c j = false := by
        unfold dAt
        rw [List.getD_eq_getElem?_getD, hj]
        rfl
      have := h j hjl
      rw [wR_some (by omega), hd] at this
      cases this
  constructor
  · intro h c hcr
    have hcl := List.mem_range.mp hcr
    have hc : p[c]? = some p[c] := List.getElem?_eq_getElem hcl
    refine (key c p[c] hc).mpr fun j hj => ?_
    have hw := wo_at (R := R) hc hj
    have hl : off p c + j < (wordsOf p R).length := by
      rw [words_len]
      exact off_lt hc hj
    have hm := h _ (List.getElem_mem hl)
    unfold wAt at hw
    rw [List.getElem?_eq_getElem hl] at hw
    rw [← hw]
    exact hm
  · intro h o ho
    obtain ⟨k, hk, rfl⟩ := List.getElem_of_mem ho
    have hk' := hk
    rw [words_len] at hk'
    obtain ⟨c, core, j, e1, e2, e3⟩ := loc p k hk'
    have hcl := (List.getElem?_eq_some_iff.mp e1).1
    have := (key c core e1).mp (h c (List.mem_range.mpr hcl)) j e2
    have hw := wo_at (R := R) e1 e2
    rw [← e3] at hw
    unfold wAt at hw
    rw [List.getElem?_eq_getElem hk] at hw
    rw [← hw] at this
    exact this
/-- what was told, and all that was told -/
structure TOk (p : List (List Ins)) (R : RunM) : Prop where
  nd : ∀ c, ((R.took.getD c []).map (·.1)).Nodup
  nn : ∀ c, ∀ x ∈ R.took.getD c [], 0 ≤ x.2
  all : ∀ (c : Nat) (core : List Ins) (j : Nat) (r y : Int), p[c]? = some core → core[j]? = some (.rd r y) → dAt R c j = true → (j : Int) ∈ (R.took.getD c []).map (·.1)
def isRdDone (R : RunM) (c : Nat) (core : List Ins) (j : Nat) : Bool := dAt R c j && (core.getD j .fn).isRd
theorem keys_sorted {p : List (List Ins)} {R : RunM} (J : JR p R) (T : TOk p R) {c : Nat} {core : List Ins} (hc : p[c]? = some core) : sortI ((R.took.getD c []).map (·.1)) = ((List.range core.length).filter (isRdDone R c core)).map fun j : Nat => (j : Int) := by
  have nd2 : (((List.range core.length).filter (isRdDone R c core)).map fun j : Nat => (j : Int)).Pairwise (· < ·) := by
    rw [List.pairwise_map]
    refine (List.Pairwise.filter _ List.pairwise_lt_range).imp fun {a b} h => ?_
    exact Int.ofNat_lt.mpr h
  refine List.Perm.eq_of_pairwise (le := (· ≤ ·)) (fun a b _ _ h1 h2 => Int.le_antisymm h1 h2) (sortI_sorted _) (nd2.imp fun h => Int.le_of_lt h) ((sortI_perm _).trans ?_)
  refine (List.perm_ext_iff_of_nodup (T.nd c) (nd2.imp fun h => Int.ne_of_lt h)).mpr fun a => ?_
  constructor
  · intro h
    obtain ⟨x, hx, rfl⟩ := List.mem_map.mp h
    obtain ⟨h0, ⟨r, y, hr⟩, hd⟩ := (J c core hc).tk x hx
    refine List.mem_map.mpr ⟨x.1.toNat, List.mem_filter.mpr ⟨List.mem_range.mpr (List.getElem?_eq_some_iff.mp hr).1, ?_⟩, by omega⟩
    unfold isRdDone
    rw [hd, List.getD_eq_getElem?_getD, hr]
    rfl
  · intro h
    obtain ⟨j, hj, rfl⟩ := List.mem_map.mp h
    obtain ⟨h1, h2⟩ := List.mem_filter.mp hj
    have hjl := List.mem_range.mp h1
    unfold isRdDone at h2
    rw [Bool.and_eq_true, List.getD_eq_getElem?_getD, List.getElem?_eq_getElem hjl] at h2
    obtain ⟨hd, hr⟩ := h2
    have hr : (core[j]).isRd = true := hr
    cases e : core[j] with
    | rd r y => exact T.all c core j r y hc (by rw [List.getElem?_eq_getElem hjl, e]) hd
    | wr r y => rw [e] at hr; cases hr
    | cp r y => rw [e] at hr; cases hr
    | fn => rw [e] at hr; cases hr
    | gd r y => rw [e] at hr; cases hr
theorem lookup_val {l : List (Int × Int)} {i v : Int} (h : l.lookup i = some v) : (i, v) ∈ l := by
  induction l with
  | nil => cases h
  | cons x l ih =>
    rw [List.lookup_cons] at h
    by_cases e : i = x.1
    · rw [show (i == x.1) = true from by rw [e]; exact beq_self_eq_true _] at h
      have h : x.2 = v := Option.some.inj h
      rw [e, ← h]
      exact List.mem_cons_self
    · rw [show (i == x.1) = false from beq_false_of_ne e] at h
      exact List.mem_cons_of_mem _ (ih h)
theorem core_fold {p : List (List Ins)} {R : RunM} (J : JR p R) (T : TOk p R) {c : Nat} {core : List Ins} (hc : p[c]? = some core) (ho : ∀ j, j < core.length → (wR R c core j).isSome = true) {W : List Ins → Nat → Nat → Bool} {start : Nat} {pre post : List (List Int)} (hp : pre.length = c) : ∀ (js : List Nat) (l : List Int), (∀ j ∈ js, j < core.length) →
    (js.map fun j => (stepM W c core start j, wR R c core j)).foldl regStep (pre ++ l :: post) = pre ++ ((js.filter (isRdDone R c core)).map fun j : Nat => (j : Int)).foldl (outStep core (R.took.getD c [])) l :: post
  | [], l, _ => rfl
  | j :: js, l, h => by
    have hj := h j List.mem_cons_self
    have ih := fun l => core_fold J T hc ho (W := W) (start := start) hp (pre := pre) (post := post) js l fun i hi => h i (List.mem_cons_of_mem _ hi)
    have hcr : core[j]? = some (core.getD j .fn) := by
      rw [List.getD_eq_getElem?_getD, List.getElem?_eq_getElem hj]
      rfl
    rw [List.map_cons, List.foldl_cons, List.filter_cons]
    have hget : (pre ++ l :: post).getD c [] = l := by
      rw [List.getD_eq_getElem?_getD, List.getElem?_append_right (by omega), hp, Nat.sub_self]
      rfl
    have hset : ∀ x, (pre ++ l :: post).set c x = pre ++ x :: post := fun x => by
      rw [List.set_append_right _ _ (by omega), hp, Nat.sub_self]
      rfl
    have hs : regStep (pre ++ l :: post) (stepM W c core start j, wR R c core j) = (match core.getD j .fn with
      | .rd r _ => if wR R c core j = some (-1) then pre ++ l :: post else (pre ++ l :: post).set c (((pre ++ l :: post).getD c []).set r.toNat ((wR R c core j).getD 0))
      | _ => pre ++ l :: post) := rfl
    rw [hs]
    cases e : core.getD j .fn with
    | rd r y =>
      show List.foldl regStep (if wR R c core j = some (-1) then _ else _) _ = _
      cases hd : dAt R c j with
      | true =>
        have hi : isRdDone R c core j = true := by
          unfold isRdDone
          rw [hd, e]
          rfl
        rw [hi, if_pos rfl, List.map_cons, List.foldl_cons]
        have hwv : wR R c core j = some (((R.took.getD c []).lookup (j : Int)).getD 0) := by
          unfold wR
          rw [hd, if_pos rfl, e]
        have hnn : 0 ≤ ((R.took.getD c []).lookup (j : Int)).getD 0 := by
          cases q : (R.took.getD c []).lookup (j : Int) with
          | none => exact Int.le_refl _
          | some v => exact T.nn c _ (lookup_val q)
        rw [hwv, if_neg (by intro z; have := Option.some.inj z; omega), hget, hset, ih]
        have hro : regOf core (j : Int) = r := by
          unfold regOf
          rw [Int.toNat_natCast, hcr, e]
        unfold outStep
        rw [hro]
        rfl
      | false =>
        have hi : isRdDone R c core j = false := by
          unfold isRdDone
          rw [hd]
          rfl
        have hso := ho j hj
        have hwv : wR R c core j = some (-1) := by
          unfold wR at hso ⊢
          rw [hd, if_neg (by simp)] at hso ⊢
          by_cases q : R.ends.getD c 0 < (j : Int)
          · rw [if_pos q]
          · rw [if_neg q] at hso
            cases hso
        rw [hi, hwv, if_pos rfl, if_neg (by simp), ih]
    | wr r y =>
      have hi : isRdDone R c core j = false := by
        unfold isRdDone
        rw [e]
        exact Bool.and_false _
      rw [hi, if_neg (by simp)]
      exact ih l
    | cp r y =>
      have hi : isRdDone R c core j = false := by
        unfold isRdDone
        rw [e]
        exact Bool.and_false _
      rw [hi, if_neg (by simp)]
      exact ih l
    | fn =>
      have hi : isRdDone R c core j = false := by
        unfold isRdDone
        rw [e]
        exact Bool.and_false _
      rw [hi, if_neg (by simp)]
      exact ih l
    | gd r y =>
      have hi : isRdDone R c core j = false := by
        unfold isRdDone
        rw [e]
        exact Bool.and_false _
      rw [hi, if_neg (by simp)]
      exact ih l
theorem regs_eq {p : List (List Ins)} {R : RunM} {W : List Ins → Nat → Nat → Bool} (J : JR p R) (T : TOk p R) (ho : ∀ (c j : Nat) (core : List Ins), p[c]? = some core → j < core.length → (wR R c core j).isSome = true) : ∀ (q : List (List Ins)) (c0 s0 : Nat) (pre : List (List Int)), pre.length = c0 → (∀ c core, q[c]? = some core → p[c0 + c]? = some core) →
    regsM (stepsFrom W c0 s0 q) (wordsFrom R c0 q) (pre ++ List.replicate q.length [0, 0]) = pre ++ outFrom R c0 q
  | [], c0, s0, pre, _, _ => rfl
  | core :: q, c0, s0, pre, hp, hq => by
    have hc : p[c0]? = some core := by
      have := hq 0 core rfl
      rwa [Nat.add_zero] at this
    have ih := regs_eq (W := W) J T ho q (c0 + 1) (s0 + core.length) (pre ++ [outC core (R.took.getD c0 [])]) (by rw [List.length_append, hp]; rfl) fun c co h => by
      have := hq (c + 1) co (by simpa using h)
      rwa [show c0 + (c + 1) = c0 + 1 + c by omega] at this
    have cf := core_fold J T hc (fun j hj => ho c0 j core hc hj) (W := W) (start := s0) (post := List.replicate q.length [0, 0]) hp (List.range core.length) [0, 0] fun j hj => List.mem_range.mp hj
    unfold regsM at ih ⊢
    show List.foldl regStep (pre ++ List.replicate (q.length + 1) [0, 0]) (((List.range core.length).map (stepM W c0 core s0) ++ stepsFrom W (c0 + 1) (s0 + core.length) q).zip ((List.range core.length).map (wR R c0 core) ++ wordsFrom R (c0 + 1) q)) = _
    rw [List.zip_append (by simp), List.foldl_append, List.replicate_succ]
    have hz : ((List.range core.length).map (stepM W c0 core s0)).zip ((List.range core.length).map (wR R c0 core)) = (List.range core.length).map fun j => (stepM W c0 core s0 j, wR R c0 core j) := by
      rw [List.zip_map']
    rw [hz, cf, ← keys_sorted J T hc]
    have e1 : pre ++ (sortI ((R.took.getD c0 []).map (·.1))).foldl (outStep core (R.took.getD c0 [])) [0, 0] :: List.replicate q.length [0, 0] = (pre ++ [outC core (R.took.getD c0 [])]) ++ List.replicate q.length [0, 0] := by
      rw [List.append_assoc]
      rfl
    rw [e1, ih, List.append_assoc]
    rfl
end CM

set_option Elab.async false
set_option linter.all false
set_option maxRecDepth 100000
set_option maxHeartbeats 4000000
/-! # What holds of the law's run all the way -/
namespace CM
open PySem PySem.Spec L2 DL
open PyProof.Rows hiding St
structure RInv (p : List (List Ins)) (n : Nat) (R : RunM) : Prop where
  L : RL p R
  J : JR p R
  T : TOk p R
  h3 : R.cells.length = 3
  cn : ∀ x ∈ R.cells, 0 ≤ x
  tl : ∀ c, (R.took.getD c []).length ≤ n
theorem putT_mem {l : List (Int × Int)} {i v : Int} {x : Int × Int} (h : x ∈ putT l i v) : (x.1 = i ∧ x.2 = v) ∨ x ∈ l := by
  unfold putT at h
  split at h
  · obtain ⟨y, hy, rfl⟩ := List.mem_map.mp h
    by_cases e : y.1 = i
    · rw [if_pos e]
      exact .inl ⟨e, rfl⟩
    · rw [if_neg e]
      exact .inr hy
  · rcases List.mem_append.mp h with h | h
    · exact .inr h
    · rw [List.mem_singleton.mp h]
      exact .inl ⟨rfl, rfl⟩
theorem putT_keys {l : List (Int × Int)} {i v : Int} : (putT l i v).map (·.1) = if (l.any fun x => decide (x.1 = i)) = true then l.map (·.1) else l.map (·.1) ++ [i] := by
  unfold putT
  split
  · rename_i h
    rw [List.map_map]
    refine List.map_congr_left fun x _ => ?_
    show (if x.1 = i then (x.1, v) else x).1 = x.1
    split <;> rfl
  · rw [List.map_append]
    rfl
theorem putT_key {l : List (Int × Int)} {i v k : Int} : k ∈ (putT l i v).map (·.1) ↔ k = i ∨ k ∈ l.map (·.1) := by
  rw [putT_keys]
  split
  · rename_i h
    obtain ⟨x, hx, e⟩ := List.any_eq_true.mp h
    have e := of_decide_eq_true e
    exact ⟨.inr, fun z => z.elim (fun z => List.mem_map.mpr ⟨x, hx, by rw [e, z]⟩) id⟩
  · rw [List.mem_append, List.mem_singleton, or_comm]
theorem putT_nodup {l : List (Int × Int)} {i v : Int} (h : (l.map (·.1)).Nodup) : ((putT l i v).map (·.1)).Nodup := by
  rw [putT_keys]
  split
  · exact h
  · rename_i h2
    refine List.nodup_append.mpr ⟨h, by simp, fun a ha b hb e => h2 ?_⟩
    rw [List.mem_singleton.mp hb] at e
    obtain ⟨x, hx, ex⟩ := List.mem_map.mp ha
    exact List.any_eq_true.mpr ⟨x, hx, decide_eq_true (by rw [ex, e])⟩
theorem putT_len {l : List (Int × Int)} {i v : Int} : (putT l i v).length ≤ l.length + 1 := by
  unfold putT
  split
  · rw [List.length_map]
    omega
  · rw [List.length_append]
    exact Nat.le_refl _
theorem inv0 (p : List (List Ins)) (h5 : ∀ c ∈ p, c.length ≤ 5) : RInv p 0 (run0 p) := by
  have ht : ∀ c, (run0 p).took.getD c [] = [] := fun c => by
    show (List.replicate p.length ([] : List (Int × Int))).getD c [] = []
    rw [List.getD_eq_getElem?_getD]
    by_cases h : c < p.length
    · rw [List.getElem?_replicate_of_lt h]
      rfl
    · rw [List.getElem?_eq_none (by simpa using h)]
      rfl
  have hd : ∀ (c : Nat) (core : List Ins), p[c]? = some core → doneR (run0 p) c = List.replicate core.length false := fun c core h => by
    show (p.map fun core => List.replicate core.length false).getD c [] = _
    rw [List.getD_eq_getElem?_getD, List.getElem?_map, h]
    rfl
  have hda : ∀ (c : Nat) (core : List Ins), p[c]? = some core → ∀ j, dAt (run0 p) c j = false := fun c core h j => by
    unfold dAt
    rw [hd c core h, List.getD_eq_getElem?_getD]
    by_cases hj : j < core.length
    · rw [List.getElem?_replicate_of_lt hj]
      rfl
    · rw [List.getElem?_eq_none (by simpa using hj)]
      rfl
  have he : ∀ (c : Nat) (core : List Ins), p[c]? = some core → (run0 p).ends.getD c 0 = 99 := fun c core h => by
    show (List.replicate p.length (99 : Int)).getD c 0 = 99
    rw [List.getD_eq_getElem?_getD, List.getElem?_replicate_of_lt (List.getElem?_eq_some_iff.mp h).1]
    rfl
  refine ⟨⟨by simp [run0], by simp [run0], by simp [run0]⟩, fun c core h => ⟨by rw [hd c core h, List.length_replicate], by rw [he c core h]; decide, fun z => ?_, fun j z => (by rw [hda c core h] at z; cases z), fun x hx => (by rw [ht] at hx; cases hx)⟩, ⟨fun c => by rw [ht]; exact List.nodup_nil, fun c x hx => (by rw [ht] at hx; cases hx), fun c core j r y h _ z => (by rw [hda c core h] at z; cases z)⟩, rfl, fun x hx => by
    have hx : x ∈ [(0 : Int), 0, 0] := hx
    simp at hx
    omega, fun c => by rw [ht]; exact Nat.le_refl _⟩
  rw [he c core h] at z
  have := h5 core (List.mem_of_getElem? h)
  omega
section
variable {sub : List Str} {p : List (List Ins)} {n : Nat} {R : RunM} (V : RInv p n R) {c j : Nat} {core : List Ins} (hc : p[c]? = some core) {i : Ins} (hi : core[j]? = some i) (ok : ∀ i ∈ core, i.ok) (hcan : canR sub R c core j i = true)
include V hc hi ok hcan
theorem word_nn (k : Nat) (r : Int) : 0 ≤ wordR R c core k r := by
  unfold wordR
  split
  · rename_i m _
    cases q : (R.took.getD c []).lookup (m : Int) with
    | none => exact Int.le_refl _
    | some v => exact V.T.nn c _ (lookup_val q)
  · exact Int.le_refl _
theorem cell_nn (k : Nat) : 0 ≤ R.cells.getD k 0 := by
  rw [List.getD_eq_getElem?_getD]
  cases e : R.cells[k]? with
  | none => exact Int.le_refl _
  | some v => exact V.cn v (List.mem_of_getElem? e)
theorem taken_nn (x : Int) : 0 ≤ takenR (setDone R c j) c core j x := by
  unfold takenR
  split
  · rename_i m hm
    split
    · exact cell_nn V hc hi ok hcan _
    · obtain ⟨h1, h2⟩ := src_of (Nat.le_of_lt (List.getElem?_eq_some_iff.mp hi).1) hm
      rcases h2 with ⟨v, h⟩ | ⟨v, h⟩
      · rw [List.getD_eq_getElem?_getD, h]
        have := ok _ (List.mem_of_getElem? h)
        exact this.2.1
      · rw [List.getD_eq_getElem?_getD, h]
        exact word_nn V hc hi ok hcan m v
  · exact cell_nn V hc hi ok hcan _
theorem inv_do : RInv p (n + 1) (doR R c core j i) := by
  have hj : j < core.length := (List.getElem?_eq_some_iff.mp hi).1
  have hcl : c < p.length := (List.getElem?_eq_some_iff.mp hc).1
  have hlen := (V.J c core hc).len
  obtain ⟨hd0, hle, hws, hlat⟩ := can_parts V.L V.J hc hi ok V.h3 hcan
  have d1 : ∀ c' j', dAt (setDone R c j) c' j' = if c = c' ∧ j = j' then true else dAt R c' j' := fun c' j' => dAt_set V.L hcl (by rw [hlen]; exact hj)
  have d3 : dAt (setDone R c j) c j = true := by rw [d1, if_pos ⟨rfl, rfl⟩]
  have dm : ∀ c' j', dAt R c' j' = true → dAt (setDone R c j) c' j' = true := fun c' j' h => by
    rw [d1]
    split
    · rfl
    · exact h
  have dl : ∀ c' core', p[c']? = some core' → (doneR (setDone R c j) c').length = core'.length := fun c' core' h => by
    have e : doneR (setDone R c j) c' = if c = c' then (doneR R c).set j true else doneR R c' := by
      show (R.done.set c ((doneR R c).set j true)).getD c' [] = _
      rw [getD_set (by rw [V.L.nd]; exact hcl)]
      rfl
    rw [e]
    split
    · rename_i z
      subst z
      rw [hc] at h
      cases h
      rw [List.length_set]
      exact hlen
    · exact (V.J c' core' h).len
  have L1 : (setDone R c j).done.length = p.length := by
    show (R.done.set c _).length = _
    rw [List.length_set]
    exact V.L.nd
  -- took and ends as they were
  have J1 : ∀ cells : List Int, JR p ⟨(setDone R c j).done, cells, R.took, R.ends⟩ := fun cells c' core' h => by
    have Jc := V.J c' core' h
    refine ⟨dl c' core' h, Jc.e0, fun z => dm _ _ (Jc.e1 z), fun j' z => ?_, fun x hx => ?_⟩
    · have z : dAt (setDone R c j) c' j' = true := z
      rw [d1] at z
      by_cases q : c = c' ∧ j = j'
      · obtain ⟨rfl, rfl⟩ := q
        exact hle
      · rw [if_neg q] at z
        exact Jc.e2 j' z
    · obtain ⟨a, b, d⟩ := Jc.tk x hx
      exact ⟨a, b, dm _ _ d⟩
  have T1 : ∀ (cells ends : List Int) , (∀ r y, i ≠ .rd r y) → TOk p ⟨(setDone R c j).done, cells, R.took, ends⟩ := fun cells ends hn => ⟨V.T.nd, V.T.nn, fun c' core' j' r y h1 h2 z => by
    have z : dAt (setDone R c j) c' j' = true := z
    rw [d1] at z
    by_cases q : c = c' ∧ j = j'
    · obtain ⟨rfl, rfl⟩ := q
      rw [hc] at h1
      cases h1
      rw [hi] at h2
      exact absurd (Option.some.inj h2) (hn r y)
    · rw [if_neg q] at z
      exact V.T.all c' core' j' r y h1 h2 z⟩
  have cset : ∀ (k : Nat) (v : Int), 0 ≤ v → ∀ x ∈ R.cells.set k v, 0 ≤ x := fun k v hv x hx => by
    rcases List.mem_or_eq_of_mem_set hx with h | h
    · exact V.cn x h
    · rw [h]
      exact hv
  have tl1 : ∀ c', (R.took.getD c' []).length ≤ n + 1 := fun c' => Nat.le_succ_of_le (V.tl c')
  cases hk : i with
  | wr x v =>
    have okw := ok i (List.mem_of_getElem? hi)
    rw [hk] at okw
    exact ⟨⟨L1, V.L.nt, V.L.ne⟩, J1 _, T1 _ _ fun _ _ z => (by rw [hk] at z; cases z), by show (R.cells.set _ _).length = 3; rw [List.length_set]; exact V.h3, cset _ _ okw.2.1, tl1⟩
  | cp x r =>
    exact ⟨⟨L1, V.L.nt, V.L.ne⟩, J1 _, T1 _ _ fun _ _ z => (by rw [hk] at z; cases z), by show (R.cells.set _ _).length = 3; rw [List.length_set]; exact V.h3, cset _ _ (word_nn V hc hi ok hcan j r), tl1⟩
  | fn => exact ⟨⟨L1, V.L.nt, V.L.ne⟩, J1 _, T1 _ _ fun _ _ z => (by rw [hk] at z; cases z), V.h3, V.cn, tl1⟩
  | gd r v =>
    have hR1 : wordR (setDone R c j) c core j r = wordR R c core j r := rfl
    by_cases hw : wordR R c core j r = v
    · have hR : doR R c core j (.gd r v) = ⟨(setDone R c j).done, R.cells, R.took, R.ends⟩ := by
        show (if wordR (setDone R c j) c core j r = v then setDone R c j else _) = _
        rw [hR1, if_pos hw]
        rfl
      rw [hR]
      exact ⟨⟨L1, V.L.nt, V.L.ne⟩, J1 _, T1 _ _ fun _ _ z => (by rw [hk] at z; cases z), V.h3, V.cn, tl1⟩
    · have he : endsR R c core j i = true := by rw [hk]; simp [endsR, hw]
      have hR : doR R c core j (.gd r v) = ⟨(setDone R c j).done, R.cells, R.took, R.ends.set c j⟩ := by
        show (if wordR (setDone R c j) c core j r = v then setDone R c j else _) = _
        rw [hR1, if_neg hw]
        rfl
      rw [hR]
      have hen : ∀ c', (R.ends.set c (j : Int)).getD c' 0 = if c = c' then (j : Int) else R.ends.getD c' 0 := fun c' => getD_set (by rw [V.L.ne]; exact hcl)
      refine ⟨⟨L1, V.L.nt, by show (R.ends.set _ _).length = _; rw [List.length_set]; exact V.L.ne⟩, fun c' core' h => ?_, T1 _ _ fun _ _ z => (by rw [hk] at z; cases z), V.h3, V.cn, tl1⟩
      have J0 := J1 R.cells c' core' h
      by_cases q : c = c'
      · subst q
        rw [hc] at h
        cases h
        have ec : (R.ends.set c (j : Int)).getD c 0 = j := by rw [hen, if_pos rfl]
        refine ⟨J0.len, ?_, fun _ => ?_, fun j' z => ?_, J0.tk⟩
        · show 0 ≤ (R.ends.set c (j : Int)).getD c 0
          rw [ec]
          omega
        · show dAt (setDone R c j) c ((R.ends.set c (j : Int)).getD c 0).toNat = true
          rw [ec, Int.toNat_natCast]
          exact d3
        · show (j' : Int) ≤ (R.ends.set c (j : Int)).getD c 0
          rw [ec]
          have z : dAt (setDone R c j) c j' = true := z
          rw [d1] at z
          by_cases q2 : c = c ∧ j = j'
          · omega
          · rw [if_neg q2] at z
            refine Classical.byContradiction fun hn => ?_
            have hjl : j' < core.length := by
              refine Classical.byContradiction fun hn2 => ?_
              unfold dAt at z
              rw [List.getD_eq_getElem?_getD, List.getElem?_eq_none (by rw [hlen]; omega)] at z
              cases z
            rw [not_later V.L V.J hc hi ok V.h3 hcan he (by omega) hjl] at z
            cases z
      · have ec : (R.ends.set c (j : Int)).getD c' 0 = R.ends.getD c' 0 := by rw [hen, if_neg q]
        refine ⟨J0.len, by show 0 ≤ (R.ends.set c (j : Int)).getD c' 0; rw [ec]; exact J0.e0, fun z => ?_, fun j' z => by show (j' : Int) ≤ (R.ends.set c (j : Int)).getD c' 0; rw [ec]; exact J0.e2 j' z, J0.tk⟩
        have z : (R.ends.set c (j : Int)).getD c' 0 < _ := z
        rw [ec] at z
        show dAt (setDone R c j) c' ((R.ends.set c (j : Int)).getD c' 0).toNat = true
        rw [ec]
        exact J0.e1 z
  | rd r x =>
    obtain ⟨v, hv⟩ : ∃ v, takenR (setDone R c j) c core j x = v := ⟨_, rfl⟩
    have hvn : 0 ≤ v := by rw [← hv]; exact taken_nn V hc hi ok hcan x
    have hR : doR R c core j (.rd r x) = ⟨(setDone R c j).done, R.cells, R.took.set c (putT (R.took.getD c []) j v), R.ends⟩ := by
      rw [← hv]
      rfl
    rw [hR]
    have ht : ∀ c', (R.took.set c (putT (R.took.getD c []) j v)).getD c' [] = if c = c' then putT (R.took.getD c []) j v else R.took.getD c' [] := fun c' => getD_set (by rw [V.L.nt]; exact hcl)
    refine ⟨⟨L1, by show (R.took.set _ _).length = _; rw [List.length_set]; exact V.L.nt, V.L.ne⟩, fun c' core' h => ?_, ⟨fun c' => ?_, fun c' y hy => ?_, fun c' core' j' r' y h1 h2 z => ?_⟩, V.h3, V.cn, fun c' => ?_⟩
    · have J0 := J1 R.cells c' core' h
      refine ⟨J0.len, J0.e0, J0.e1, J0.e2, fun y hy => ?_⟩
      have hy : y ∈ (R.took.set c (putT (R.took.getD c []) j v)).getD c' [] := hy
      rw [ht] at hy
      by_cases q : c = c'
      · subst q
        rw [hc] at h
        cases h
        rw [if_pos rfl] at hy
        rcases putT_mem hy with ⟨e, _⟩ | hy
        · rw [e]
          refine ⟨by omega, ⟨r, x, ?_⟩, ?_⟩
          · rw [Int.toNat_natCast, hi, hk]
          · rw [Int.toNat_natCast]
            exact d3
        · exact J0.tk y hy
      · rw [if_neg q] at hy
        exact J0.tk y hy
    · show (((R.took.set c (putT (R.took.getD c []) j v)).getD c' []).map (·.1)).Nodup
      rw [ht]
      split
      · exact putT_nodup (V.T.nd c)
      · exact V.T.nd c'
    · have hy : y ∈ (R.took.set c (putT (R.took.getD c []) j v)).getD c' [] := hy
      rw [ht] at hy
      split at hy
      · rcases putT_mem hy with ⟨_, e⟩ | hy
        · rw [e]
          exact hvn
        · exact V.T.nn c y hy
      · exact V.T.nn c' y hy
    · show (j' : Int) ∈ ((R.took.set c (putT (R.took.getD c []) j v)).getD c' []).map (·.1)
      rw [ht]
      have z : dAt (setDone R c j) c' j' = true := z
      rw [d1] at z
      by_cases q : c = c'
      · subst q
        rw [if_pos rfl, putT_key]
        by_cases q2 : j = j'
        · exact .inl (by omega)
        · rw [if_neg fun y => q2 y.2] at z
          exact .inr (V.T.all c core' j' r' y h1 h2 z)
      · rw [if_neg q]
        rw [if_neg fun y => q y.1] at z
        exact V.T.all c' core' j' r' y h1 h2 z
    · show ((R.took.set c (putT (R.took.getD c []) j v)).getD c' []).length ≤ n + 1
      rw [ht]
      split
      · exact Nat.le_trans putT_len (Nat.succ_le_succ (V.tl c))
      · exact tl1 c'
end
end CM

set_option Elab.async false
set_option linter.all false
set_option maxRecDepth 100000
set_option maxHeartbeats 4000000
/-! # The row of events grows -/
namespace CM
open PySem PySem.Spec L2 DL
open PyProof.Rows hiding St
theorem RunTo.snoc {S : List SM} {es : List (Nat × Nat)} {e : Nat × Nat} {w w1 : List (Option Int)} {c c1 : List Int} {k : Nat} {s : SM} (h : RunTo S es w c w1 c1) (h1 : IsAt S e k s) (h2 : k ∈ nowM S w1) (h3 : ∀ x r, s.ins = .cp x r → (usedM s w1).isSome = true) : RunTo S (es ++ [e]) w c (behindM S w1 c1 k).1 (behindM S w1 c1 k).2 := by
  induction h with
  | nil => exact .cons h1 h2 h3 .nil
  | cons a b d _ ih => exact .cons a b d (ih h2 h3)
theorem evs_mem {sub : List Str} {R : RunM} {e : Nat × Nat} : ∀ (p : List (List Ins)) (c0 : Nat), e ∈ evsFrom sub R c0 p → ∃ (c : Nat) (core : List Ins) (i : Ins), p[c]? = some core ∧ e.1 = c0 + c ∧ core[e.2]? = some i ∧ canR sub R (c0 + c) core e.2 i = true
  | [], _, h => by cases h
  | core :: p, c0, h => by
    rcases List.mem_append.mp h with h | h
    · obtain ⟨j, hj, rfl⟩ := List.mem_map.mp h
      obtain ⟨h1, h2⟩ := List.mem_filter.mp hj
      have hjl := List.mem_range.mp h1
      refine ⟨0, core, core.getD j .fn, rfl, rfl, ?_, h2⟩
      rw [List.getD_eq_getElem?_getD, List.getElem?_eq_getElem hjl]
      rfl
    · obtain ⟨c, co, i, e1, e2, e3, e4⟩ := evs_mem p (c0 + 1) h
      refine ⟨c + 1, co, i, by simpa using e1, by omega, e3, ?_⟩
      rw [show c0 + (c + 1) = c0 + 1 + c by omega]
      exact e4
section
variable {sub : List Str} {p : List (List Ins)} {c j : Nat} {core : List Ins} (hc : p[c]? = some core) (hj : j < core.length)
include hc hj
theorem is_at : IsAt (stepsOf sub p) (c, j) (off p c + j) (stepM (mustM sub) c core (off p c) j) := by
  refine ⟨st_at hc hj, by simp [isE, stepM], fun k s hk hs => ?_⟩
  have hkl : k < tot p := by
    have := (List.getElem?_eq_some_iff.mp hs).1
    rw [stepsFrom_len] at this
    exact this
  obtain ⟨c', core', j', e1, e2, rfl⟩ := loc p k hkl
  rw [st_at e1 e2] at hs
  have hs := Option.some.inj hs
  subst hs
  show (decide (c' = c) && decide (j' = j)) = false
  cases q : (decide (c' = c) && decide (j' = j)) with
  | false => rfl
  | true =>
    rw [Bool.and_eq_true, decide_eq_true_eq, decide_eq_true_eq] at q
    obtain ⟨rfl, rfl⟩ := q
    exact absurd hk (Nat.lt_irrefl _)
end
/-- how many are yet to come -/
def cnt (w : List (Option Int)) : Nat := (w.filter Option.isNone).length
theorem cnt_le : ∀ (w w' : List (Option Int)), w'.length = w.length → (∀ k, (wAt w k).isSome = true → (wAt w' k).isSome = true) → cnt w' ≤ cnt w
  | [], [], _, _ => Nat.le_refl _
  | [], _ :: _, h, _ => by simp at h
  | _ :: _, [], h, _ => by simp at h
  | x :: w, y :: w', h, hm => by
    have ih := cnt_le w w' (by simpa using h) fun k hk => hm (k + 1) hk
    have h0 := hm 0
    unfold cnt at ih ⊢
    rw [List.filter_cons, List.filter_cons]
    cases x with
    | none =>
      cases y with
      | none => simpa using ih
      | some v =>
        simp
        omega
    | some u =>
      cases y with
      | none => exact absurd (h0 rfl) (by simp [wAt])
      | some v => simpa using ih
theorem cnt_lt : ∀ (w w' : List (Option Int)) (k0 : Nat), w'.length = w.length → (∀ k, (wAt w k).isSome = true → (wAt w' k).isSome = true) → k0 < w.length → (wAt w k0).isNone = true → (wAt w' k0).isSome = true → cnt w' + 1 ≤ cnt w
  | [], _, _, _, _, h, _, _ => by simp at h
  | _ :: _, [], _, h, _, _, _, _ => by simp at h
  | x :: w, y :: w', 0, h, hm, _, h1, h2 => by
    have ih := cnt_le w w' (by simpa using h) fun k hk => hm (k + 1) hk
    unfold cnt at ih ⊢
    rw [List.filter_cons, List.filter_cons]
    cases x with
    | none =>
      cases y with
      | none => simp [wAt] at h2
      | some v => simpa using ih
    | some u => simp [wAt] at h1
  | x :: w, y :: w', k0 + 1, h, hm, hk, h1, h2 => by
    have ih := cnt_lt w w' k0 (by simpa using h) (fun k hk => hm (k + 1) hk) (by simpa using hk) h1 h2
    have h0 := hm 0
    unfold cnt at ih ⊢
    rw [List.filter_cons, List.filter_cons]
    cases x with
    | none =>
      cases y with
      | none =>
        simp at ih ⊢
        omega
      | some v =>
        simp at ih ⊢
        omega
    | some u =>
      cases y with
      | none => exact absurd (h0 rfl) (by simp [wAt])
      | some v => simpa using ih
theorem wAt_some_lt {w : List (Option Int)} {k : Nat} (h : (wAt w k).isSome = true) : k < w.length := by
  unfold wAt at h
  cases e : w[k]? with
  | none => rw [e] at h; cases h
  | some x => exact (List.getElem?_eq_some_iff.mp e).1
theorem behind_mono {S : List SM} {w : List (Option Int)} {cells : List Int} {k : Nat} {s : SM} (hs : S[k]? = some s) (hi : SIn w.length s) (hk : k < w.length) {k' : Nat} (hne : k ≠ k') (h : (wAt w k').isSome = true) : (wAt (behindM S w cells k).1 k').isSome = true := by
  rw [behindM_at hs]
  have st : ∀ v, (wAt (w.set k v) k').isSome = true := fun v => by
    rw [wAt_set hk, if_neg hne]
    exact h
  unfold behindS
  split
  · exact st _
  · exact st _
  · exact st _
  · show (wAt (if endsM s w = true then leftM (w.set k (some 0)) s.behind else w.set k (some 0)) k').isSome = true
    split
    · rw [wAt_left _ _ _ fun j hj => by rw [List.length_set]; exact hi.behind j hj]
      split
      · rfl
      · exact st _
    · exact st _
/-- the run and the row so far -/
structure RRow (sub : List Str) (p : List (List Ins)) (es : List (Nat × Nat)) (R : RunM) : Prop where
  V : RInv p es.length R
  run : RunTo (stepsOf sub p) es (List.replicate (stepsOf sub p).length none) [0, 0, 0] (wordsOf p R) R.cells
  few : es.length + cnt (wordsOf p R) ≤ tot p
  ten : ∀ e ∈ es, e.1 ≤ 10 ∧ e.2 ≤ 10
theorem row0 {sub : List Str} {p : List (List Ins)} (hp : POk p) : RRow sub p [] (run0 p) := by
  have V := inv0 p hp.c5
  have hw : wordsOf p (run0 p) = List.replicate (stepsOf sub p).length none := by
    refine ws_ext (by rw [words_len, List.length_replicate, stepsFrom_len]; rfl) fun k hk => ?_
    rw [words_len] at hk
    obtain ⟨c, core, j, e1, e2, rfl⟩ := loc p k hk
    rw [wo_at e1 e2]
    have hl : off p c + j < (List.replicate (stepsOf sub p).length (none : Option Int)).length := by
      rw [List.length_replicate, stepsFrom_len]
      exact off_lt e1 e2
    have h2 : wAt (List.replicate (stepsOf sub p).length (none : Option Int)) (off p c + j) = none := by
      unfold wAt
      rw [List.getElem?_eq_getElem hl, List.getElem_replicate]
      rfl
    rw [h2]
    have hd : dAt (run0 p) c j = false := by
      unfold dAt
      have : doneR (run0 p) c = List.replicate core.length false := by
        show (p.map fun core => List.replicate core.length false).getD c [] = _
        rw [List.getD_eq_getElem?_getD, List.getElem?_map, e1]
        rfl
      rw [this, List.getD_eq_getElem?_getD, List.getElem?_replicate_of_lt e2]
      rfl
    have he : (run0 p).ends.getD c 0 = 99 := by
      show (List.replicate p.length (99 : Int)).getD c 0 = 99
      rw [List.getD_eq_getElem?_getD, List.getElem?_replicate_of_lt (List.getElem?_eq_some_iff.mp e1).1]
      rfl
    have h5 := hp.c5 core (List.mem_of_getElem? e1)
    unfold wR
    rw [hd, if_neg (by simp), he, if_neg (by omega)]
  refine ⟨V, ?_, ?_, fun e he => by cases he⟩
  · rw [hw]
    exact .nil
  · have : cnt (wordsOf p (run0 p)) ≤ (wordsOf p (run0 p)).length := List.length_filter_le _ _
    rw [words_len] at this
    simpa using this
theorem row_do {sub : List Str} {p : List (List Ins)} (hp : POk p) {es : List (Nat × Nat)} {R : RunM} (H : RRow sub p es R) {e : Nat × Nat} (he : e ∈ evsFrom sub R 0 p) : ∃ (core : List Ins) (i : Ins), p[e.1]? = some core ∧ core[e.2]? = some i ∧ RRow sub p (es ++ [e]) (doR R e.1 core e.2 i) := by
  obtain ⟨c, core, i, hc, e1, hi, hcan⟩ := evs_mem p 0 he
  rw [Nat.zero_add] at e1 hcan
  subst e1
  have hj := (List.getElem?_eq_some_iff.mp hi).1
  have hcl := (List.getElem?_eq_some_iff.mp hc).1
  have hm := List.mem_of_getElem? hc
  have ok := hp.ins core hm
  have V := H.V
  have bd := behind_do V.L V.J hc hi ok V.h3 hcan
  have hn := can_at (sub := sub) V.J hc hi
  rw [hcan, Bool.and_eq_true] at hn
  have hkl := off_lt hc hj
  have hl : (stepsOf sub p).length = tot p := stepsFrom_len (mustM sub) p 0 0
  have hnow : off p e.1 + e.2 ∈ nowM (stepsOf sub p) (wordsOf p R) := List.mem_filter.mpr ⟨List.mem_range.mpr (by rw [hl]; exact hkl), by rw [hn.1, hn.2]; rfl⟩
  have hcp : ∀ x r, (stepM (mustM sub) e.1 core (off p e.1) e.2).ins = .cp x r → (usedM (stepM (mustM sub) e.1 core (off p e.1) e.2) (wordsOf p R)).isSome = true := fun x r hx => by
    have hx : core.getD e.2 .fn = .cp x r := hx
    rw [List.getD_eq_getElem?_getD, hi] at hx
    rw [cp_some V.L V.J hc hi ok V.h3 hcan hx]
    rfl
  have rs := H.run.snoc (is_at hc hj) hnow hcp
  rw [bd] at rs
  have hS : SIn (wordsOf p R).length (stepM (mustM sub) e.1 core (off p e.1) e.2) := by
    rw [words_len]
    exact sin_from p 0 0 (tot p) hp.ins (by rw [Nat.zero_add]; exact Nat.le_refl _) _ (List.mem_of_getElem? (st_at hc hj))
  have hw' : wordsOf p (doR R e.1 core e.2 i) = (behindM (stepsOf sub p) (wordsOf p R) R.cells (off p e.1 + e.2)).1 := by rw [bd]
  have hV := inv_do V hc hi ok hcan
  have hsome : (wAt (wordsOf p (doR R e.1 core e.2 i)) (off p e.1 + e.2)).isSome = true := by
    rw [wo_at hc hj]
    refine wR_done ?_
    have d1 : dAt (setDone R e.1 e.2) e.1 e.2 = true := by
      rw [dAt_set V.L hcl (by rw [(V.J e.1 core hc).len]; exact hj), if_pos ⟨rfl, rfl⟩]
    unfold doR
    cases i with
    | gd r v =>
      show dAt (if wordR (setDone R e.1 e.2) e.1 core e.2 r = v then setDone R e.1 e.2 else _) _ _ = true
      by_cases q : wordR (setDone R e.1 e.2) e.1 core e.2 r = v
      · rw [if_pos q]
        exact d1
      · rw [if_neg q]
        exact d1
    | rd r v => exact d1
    | wr r v => exact d1
    | cp r v => exact d1
    | fn => exact d1
  have hlt := cnt_lt (wordsOf p R) (wordsOf p (doR R e.1 core e.2 i)) (off p e.1 + e.2) (by rw [words_len, words_len]) (fun k hk => by
    by_cases q : off p e.1 + e.2 = k
    · rw [← q]
      exact hsome
    · rw [hw']
      exact behind_mono (st_at hc hj) hS (by rw [words_len]; exact hkl) q hk) (by rw [words_len]; exact hkl) hn.1 hsome
  refine ⟨core, i, hc, hi, ⟨by rw [List.length_append]; exact hV, rs, ?_, fun d hd => ?_⟩⟩
  · have := H.few
    rw [List.length_append, List.length_singleton]
    omega
  · rcases List.mem_append.mp hd with hd | hd
    · exact H.ten d hd
    · rw [List.mem_singleton.mp hd]
      have := hp.n3
      have := hp.c5 core hm
      omega
end CM

set_option Elab.async false
set_option linter.all false
set_option maxRecDepth 100000
set_option maxHeartbeats 2000000
namespace K03
open PySem PySem.Spec L2 DL
open PyProof.Rows hiding St
open LamX hiding takes0
abbrev P : Program := PySem.Challenge.pw_pairskept_k03_whole_rows
def topS (i : Nat) : Stmt := PySem.Challenge.pw_pairskept_k03_whole_rows.main.body.getD i (.Pass ⟨0, 0, 0, 0⟩)
def clsS (i j : Nat) : Stmt := match topS i with
  | .ClassDef _ _ _ body _ _ _ _ _ _ _ => body.getD j (.Pass ⟨0, 0, 0, 0⟩)
  | s => s
abbrev s__law_alike : Stmt := topS 58
abbrev N__law_alike : List Str := ["found", "due", "k"]
theorem sc__law_alike : FnScope N__law_alike ["found", "due"] (defScope s__law_alike) := ⟨rfl, rfl, rfl, by decide +kernel, rfl, by decide +kernel, by decide +kernel⟩
abbrev s__law_begin : Stmt := topS 66
abbrev N__law_begin : List Str := ["design", "program", "found", "core"]
theorem sc__law_begin : FnScope N__law_begin ["design", "program"] (defScope s__law_begin) := ⟨rfl, rfl, rfl, by decide +kernel, rfl, by decide +kernel, by decide +kernel⟩
abbrev s__law_taken : Stmt := topS 56
abbrev N__law_taken : List Str := ["row", "many", "found", "cell"]
theorem sc__law_taken : FnScope N__law_taken ["row", "many"] (defScope s__law_taken) := ⟨rfl, rfl, rfl, by decide +kernel, rfl, by decide +kernel, by decide +kernel⟩
abbrev s__law_design : Stmt := topS 61
abbrev N__law_design : List Str := ["row", "word"]
theorem sc__law_design : FnScope N__law_design ["row"] (defScope s__law_design) := ⟨rfl, rfl, rfl, by decide +kernel, rfl, by decide +kernel, by decide +kernel⟩
abbrev s__law_last : Stmt := topS 64
abbrev N__law_last : List Str := ["core", "place", "kinds", "spot", "name", "k"]
theorem sc__law_last : FnScope N__law_last ["core", "place", "kinds", "spot", "name"] (defScope s__law_last) := ⟨rfl, rfl, rfl, by decide +kernel, rfl, by decide +kernel, by decide +kernel⟩
abbrev s__law_word : Stmt := topS 67
abbrev N__law_word : List Str := ["run", "c", "place", "name", "some"]
theorem sc__law_word : FnScope N__law_word ["run", "c", "place", "name"] (defScope s__law_word) := ⟨rfl, rfl, rfl, by decide +kernel, rfl, by decide +kernel, by decide +kernel⟩
abbrev s__law_written : Stmt := topS 68
abbrev N__law_written : List Str := ["run", "c", "place", "one"]
theorem sc__law_written : FnScope N__law_written ["run", "c", "place"] (defScope s__law_written) := ⟨rfl, rfl, rfl, by decide +kernel, rfl, by decide +kernel, by decide +kernel⟩
abbrev s__law_do : Stmt := topS 71
abbrev N__law_do : List Str := ["run", "event", "c", "place", "one", "some", "k"]
theorem sc__law_do : FnScope N__law_do ["run", "event"] (defScope s__law_do) := ⟨rfl, rfl, rfl, by decide +kernel, rfl, by decide +kernel, by decide +kernel⟩
abbrev s__law_cell : Stmt := topS 63
abbrev N__law_cell : List Str := ["one"]
theorem sc__law_cell : FnScope N__law_cell ["one"] (defScope s__law_cell) := ⟨rfl, rfl, rfl, by decide +kernel, rfl, by decide +kernel, by decide +kernel⟩
abbrev s__law_letter : Stmt := topS 62
abbrev N__law_letter : List Str := ["one"]
theorem sc__law_letter : FnScope N__law_letter ["one"] (defScope s__law_letter) := ⟨rfl, rfl, rfl, by decide +kernel, rfl, by decide +kernel, by decide +kernel⟩
abbrev s__law_must : Stmt := topS 65
abbrev N__law_must : List Str := ["design", "core", "i", "j", "one", "other", "pair", "k"]
theorem sc__law_must : FnScope N__law_must ["design", "core", "i", "j"] (defScope s__law_must) := ⟨rfl, rfl, rfl, by decide +kernel, rfl, by decide +kernel, by decide +kernel⟩
abbrev s__law_can : Stmt := topS 69
abbrev N__law_can : List Str := ["run", "c", "place", "core", "done", "ends", "i"]
theorem sc__law_can : FnScope N__law_can ["run", "c", "place"] (defScope s__law_can) := ⟨rfl, rfl, rfl, by decide +kernel, rfl, by decide +kernel, by decide +kernel⟩
abbrev s__law_events : Stmt := topS 70
abbrev N__law_events : List Str := ["run", "found", "c", "place"]
theorem sc__law_events : FnScope N__law_events ["run"] (defScope s__law_events) := ⟨rfl, rfl, rfl, by decide +kernel, rfl, by decide +kernel, by decide +kernel⟩
abbrev s__law_outcome : Stmt := topS 73
abbrev N__law_outcome : List Str := ["run", "found", "c", "words", "place"]
theorem sc__law_outcome : FnScope N__law_outcome ["run"] (defScope s__law_outcome) := ⟨rfl, rfl, rfl, by decide +kernel, rfl, by decide +kernel, by decide +kernel⟩
abbrev s__law_over : Stmt := topS 72
abbrev N__law_over : List Str := ["run", "c"]
theorem sc__law_over : FnScope N__law_over ["run"] (defScope s__law_over) := ⟨rfl, rfl, rfl, by decide +kernel, rfl, by decide +kernel, by decide +kernel⟩
abbrev s__law_pick : Stmt := topS 57
abbrev N__law_pick : List Str := ["row", "kinds"]
theorem sc__law_pick : FnScope N__law_pick ["row", "kinds"] (defScope s__law_pick) := ⟨rfl, rfl, rfl, by decide +kernel, rfl, by decide +kernel, by decide +kernel⟩
abbrev s__law_instruction : Stmt := topS 59
abbrev N__law_instruction : List Str := ["row", "kind"]
theorem sc__law_instruction : FnScope N__law_instruction ["row"] (defScope s__law_instruction) := ⟨rfl, rfl, rfl, by decide +kernel, rfl, by decide +kernel, by decide +kernel⟩
abbrev s__law_program : Stmt := topS 60
abbrev N__law_program : List Str := ["row", "most", "left", "found", "turn", "many", "step"]
theorem sc__law_program : FnScope N__law_program ["row", "most"] (defScope s__law_program) := ⟨rfl, rfl, rfl, by decide +kernel, rfl, by decide +kernel, by decide +kernel⟩
abbrev s_is_design : Stmt := topS 23
abbrev N_is_design : List Str := ["value", "word"]
theorem sc_is_design : FnScope N_is_design ["value"] (defScope s_is_design) := ⟨rfl, rfl, rfl, by decide +kernel, rfl, by decide +kernel, by decide +kernel⟩
abbrev s_check_design : Stmt := topS 24
abbrev N_check_design : List Str := ["value"]
theorem sc_check_design : FnScope N_check_design ["value"] (defScope s_check_design) := ⟨rfl, rfl, rfl, by decide +kernel, rfl, by decide +kernel, by decide +kernel⟩
abbrev s_is_number : Stmt := topS 11
abbrev N_is_number : List Str := ["value", "greatest"]
theorem sc_is_number : FnScope N_is_number ["value", "greatest"] (defScope s_is_number) := ⟨rfl, rfl, rfl, by decide +kernel, rfl, by decide +kernel, by decide +kernel⟩
abbrev s_is_instruction : Stmt := topS 12
abbrev N_is_instruction : List Str := ["value", "limits", "number", "limit"]
theorem sc_is_instruction : FnScope N_is_instruction ["value"] (defScope s_is_instruction) := ⟨rfl, rfl, rfl, by decide +kernel, rfl, by decide +kernel, by decide +kernel⟩
abbrev s_is_core : Stmt := topS 13
abbrev N_is_core : List Str := ["value", "item"]
theorem sc_is_core : FnScope N_is_core ["value"] (defScope s_is_core) := ⟨rfl, rfl, rfl, by decide +kernel, rfl, by decide +kernel, by decide +kernel⟩
abbrev s_check_program : Stmt := topS 14
abbrev N_check_program : List Str := ["value", "total", "at", "core"]
theorem sc_check_program : FnScope N_check_program ["value"] (defScope s_check_program) := ⟨rfl, rfl, rfl, by decide +kernel, rfl, by decide +kernel, by decide +kernel⟩
abbrev s_is_reading : Stmt := topS 15
abbrev N_is_reading : List Str := ["instruction"]
theorem sc_is_reading : FnScope N_is_reading ["instruction"] (defScope s_is_reading) := ⟨rfl, rfl, rfl, by decide +kernel, rfl, by decide +kernel, by decide +kernel⟩
abbrev s_is_writing : Stmt := topS 16
abbrev N_is_writing : List Str := ["instruction"]
theorem sc_is_writing : FnScope N_is_writing ["instruction"] (defScope s_is_writing) := ⟨rfl, rfl, rfl, by decide +kernel, rfl, by decide +kernel, by decide +kernel⟩
abbrev s_cell_of : Stmt := topS 17
abbrev N_cell_of : List Str := ["instruction"]
theorem sc_cell_of : FnScope N_cell_of ["instruction"] (defScope s_cell_of) := ⟨rfl, rfl, rfl, by decide +kernel, rfl, by decide +kernel, by decide +kernel⟩
abbrev s_is_kept_behind_guard : Stmt := topS 27
abbrev N_is_kept_behind_guard : List Str := ["design", "later"]
theorem sc_is_kept_behind_guard : FnScope N_is_kept_behind_guard ["design", "later"] (defScope s_is_kept_behind_guard) := ⟨rfl, rfl, rfl, by decide +kernel, rfl, by decide +kernel, by decide +kernel⟩
abbrev s_is_kept_on_cell : Stmt := topS 28
abbrev N_is_kept_on_cell : List Str := ["design", "earlier", "later"]
theorem sc_is_kept_on_cell : FnScope N_is_kept_on_cell ["design", "earlier", "later"] (defScope s_is_kept_on_cell) := ⟨rfl, rfl, rfl, by decide +kernel, rfl, by decide +kernel, by decide +kernel⟩
abbrev s_kind_of : Stmt := topS 29
abbrev N_kind_of : List Str := ["instruction"]
theorem sc_kind_of : FnScope N_kind_of ["instruction"] (defScope s_kind_of) := ⟨rfl, rfl, rfl, by decide +kernel, rfl, by decide +kernel, by decide +kernel⟩
abbrev s_last_read : Stmt := topS 19
abbrev N_last_read : List Str := ["core", "number", "place", "found", "at"]
theorem sc_last_read : FnScope N_last_read ["core", "number", "place"] (defScope s_last_read) := ⟨rfl, rfl, rfl, by decide +kernel, rfl, by decide +kernel, by decide +kernel⟩
abbrev s_used_by : Stmt := topS 18
abbrev N_used_by : List Str := ["instruction"]
theorem sc_used_by : FnScope N_used_by ["instruction"] (defScope s_used_by) := ⟨rfl, rfl, rfl, by decide +kernel, rfl, by decide +kernel, by decide +kernel⟩
abbrev s_is_kept : Stmt := topS 26
abbrev N_is_kept : List Str := ["design", "core", "first", "second", "earlier", "later"]
theorem sc_is_kept : FnScope N_is_kept ["design", "core", "first", "second"] (defScope s_is_kept) := ⟨rfl, rfl, rfl, by decide +kernel, rfl, by decide +kernel, by decide +kernel⟩
abbrev s_last_writing : Stmt := topS 20
abbrev N_last_writing : List Str := ["core", "cell", "place", "found", "at"]
theorem sc_last_writing : FnScope N_last_writing ["core", "cell", "place"] (defScope s_last_writing) := ⟨rfl, rfl, rfl, by decide +kernel, rfl, by decide +kernel, by decide +kernel⟩
abbrev s_waits_for_copied : Stmt := topS 30
abbrev N_waits_for_copied : List Str := ["design", "core", "first", "second", "source"]
theorem sc_waits_for_copied : FnScope N_waits_for_copied ["design", "core", "first", "second"] (defScope s_waits_for_copied) := ⟨rfl, rfl, rfl, by decide +kernel, rfl, by decide +kernel, by decide +kernel⟩
abbrev s_must_wait : Stmt := topS 25
abbrev N_must_wait : List Str := ["design", "core", "first", "second"]
theorem sc_must_wait : FnScope N_must_wait ["design", "core", "first", "second"] (defScope s_must_wait) := ⟨rfl, rfl, rfl, by decide +kernel, rfl, by decide +kernel, by decide +kernel⟩
abbrev s_source_of : Stmt := topS 35
abbrev N_source_of : List Str := ["core", "place", "instruction"]
theorem sc_source_of : FnScope N_source_of ["core", "place"] (defScope s_source_of) := ⟨rfl, rfl, rfl, by decide +kernel, rfl, by decide +kernel, by decide +kernel⟩
abbrev s_Step_init : Stmt := clsS 34 0
abbrev N_Step_init : List Str := ["self", "number", "core", "place", "start", "waits_for", "at", "first", "later"]
theorem sc_Step_init : FnScope N_Step_init ["self", "number", "core", "place", "start", "waits_for"] (defScope s_Step_init) := ⟨rfl, rfl, rfl, by decide +kernel, rfl, by decide +kernel, by decide +kernel⟩
abbrev s_make_steps : Stmt := topS 37
abbrev N_make_steps : List Str := ["program", "waits_for", "steps", "number", "core", "start", "place"]
theorem sc_make_steps : FnScope N_make_steps ["program", "waits_for"] (defScope s_make_steps) := ⟨rfl, rfl, rfl, by decide +kernel, rfl, by decide +kernel, by decide +kernel⟩
abbrev s_steps_on : Stmt := topS 36
abbrev N_steps_on : List Str := ["design", "program"]
theorem sc_steps_on : FnScope N_steps_on ["design", "program"] (defScope s_steps_on) := ⟨rfl, rfl, rfl, by decide +kernel, rfl, by decide +kernel, by decide +kernel⟩
abbrev s_checked_steps : Stmt := topS 52
abbrev N_checked_steps : List Str := ["design", "program"]
theorem sc_checked_steps : FnScope N_checked_steps ["design", "program"] (defScope s_checked_steps) := ⟨rfl, rfl, rfl, by decide +kernel, rfl, by decide +kernel, by decide +kernel⟩
abbrev s_first_state : Stmt := topS 38
abbrev N_first_state : List Str := ["steps"]
theorem sc_first_state : FnScope N_first_state ["steps"] (defScope s_first_state) := ⟨rfl, rfl, rfl, by decide +kernel, rfl, by decide +kernel, by decide +kernel⟩
abbrev s_number_of : Stmt := topS 54
abbrev N_number_of : List Str := ["steps", "event", "at", "step", "part"]
theorem sc_number_of : FnScope N_number_of ["steps", "event"] (defScope s_number_of) := ⟨rfl, rfl, rfl, by decide +kernel, rfl, by decide +kernel, by decide +kernel⟩
abbrev s_word_used : Stmt := topS 43
abbrev N_word_used : List Str := ["step", "words"]
theorem sc_word_used : FnScope N_word_used ["step", "words"] (defScope s_word_used) := ⟨rfl, rfl, rfl, by decide +kernel, rfl, by decide +kernel, by decide +kernel⟩
abbrev s_ends_core : Stmt := topS 42
abbrev N_ends_core : List Str := ["step", "words"]
theorem sc_ends_core : FnScope N_ends_core ["step", "words"] (defScope s_ends_core) := ⟨rfl, rfl, rfl, by decide +kernel, rfl, by decide +kernel, by decide +kernel⟩
abbrev s_word_written : Stmt := topS 44
abbrev N_word_written : List Str := ["step", "words"]
theorem sc_word_written : FnScope N_word_written ["step", "words"] (defScope s_word_written) := ⟨rfl, rfl, rfl, by decide +kernel, rfl, by decide +kernel, by decide +kernel⟩
abbrev s_word_taken : Stmt := topS 45
abbrev N_word_taken : List Str := ["steps", "state", "step", "words", "cells"]
theorem sc_word_taken : FnScope N_word_taken ["steps", "state", "step"] (defScope s_word_taken) := ⟨rfl, rfl, rfl, by decide +kernel, rfl, by decide +kernel, by decide +kernel⟩
abbrev s_state_behind : Stmt := topS 46
abbrev N_state_behind : List Str := ["steps", "state", "at", "step", "words", "cells", "other"]
theorem sc_state_behind : FnScope N_state_behind ["steps", "state", "at"] (defScope s_state_behind) := ⟨rfl, rfl, rfl, by decide +kernel, rfl, by decide +kernel, by decide +kernel⟩
abbrev s_can_come : Stmt := topS 41
abbrev N_can_come : List Str := ["step", "words", "other"]
theorem sc_can_come : FnScope N_can_come ["step", "words"] (defScope s_can_come) := ⟨rfl, rfl, rfl, by decide +kernel, rfl, by decide +kernel, by decide +kernel⟩
abbrev s_steps_now : Stmt := topS 40
abbrev N_steps_now : List Str := ["steps", "state", "words", "at", "step"]
theorem sc_steps_now : FnScope N_steps_now ["steps", "state"] (defScope s_steps_now) := ⟨rfl, rfl, rfl, by decide +kernel, rfl, by decide +kernel, by decide +kernel⟩
abbrev s_state_behind_row : Stmt := topS 53
abbrev N_state_behind_row : List Str := ["steps", "row", "state", "index", "event", "at"]
theorem sc_state_behind_row : FnScope N_state_behind_row ["steps", "row"] (defScope s_state_behind_row) := ⟨rfl, rfl, rfl, by decide +kernel, rfl, by decide +kernel, by decide +kernel⟩
abbrev s_events_behind : Stmt := topS 49
abbrev N_events_behind : List Str := ["design", "program", "row", "steps", "state", "at"]
theorem sc_events_behind : FnScope N_events_behind ["design", "program", "row"] (defScope s_events_behind) := ⟨rfl, rfl, rfl, by decide +kernel, rfl, by decide +kernel, by decide +kernel⟩
abbrev s_is_over : Stmt := topS 39
abbrev N_is_over : List Str := ["state"]
theorem sc_is_over : FnScope N_is_over ["state"] (defScope s_is_over) := ⟨rfl, rfl, rfl, by decide +kernel, rfl, by decide +kernel, by decide +kernel⟩
abbrev s_has_ended : Stmt := topS 50
abbrev N_has_ended : List Str := ["design", "program", "row", "steps"]
theorem sc_has_ended : FnScope N_has_ended ["design", "program", "row"] (defScope s_has_ended) := ⟨rfl, rfl, rfl, by decide +kernel, rfl, by decide +kernel, by decide +kernel⟩
abbrev s_outcome_of : Stmt := topS 47
abbrev N_outcome_of : List Str := ["steps", "program", "state", "registers", "step", "word", "_", "pair"]
theorem sc_outcome_of : FnScope N_outcome_of ["steps", "program", "state"] (defScope s_outcome_of) := ⟨rfl, rfl, rfl, by decide +kernel, rfl, by decide +kernel, by decide +kernel⟩
abbrev s_told_by : Stmt := topS 51
abbrev N_told_by : List Str := ["design", "program", "row", "steps", "state"]
theorem sc_told_by : FnScope N_told_by ["design", "program", "row"] (defScope s_told_by) := ⟨rfl, rfl, rfl, by decide +kernel, rfl, by decide +kernel, by decide +kernel⟩
abbrev s__law_not_made : Stmt := topS 74
abbrev N__law_not_made : List Str := ["work", "e"]
theorem sc__law_not_made : FnScope N__law_not_made ["work"] (defScope s__law_not_made) := ⟨rfl, rfl, rfl, by decide +kernel, rfl, by decide +kernel, by decide +kernel⟩
abbrev s_law : Stmt := topS 75
abbrev N_law : List Str := ["script", "row", "design", "program", "events", "run", "turn", "some", "event"]
theorem sc_law : FnScope N_law ["script"] (defScope s_law) := ⟨rfl, rfl, rfl, by decide +kernel, rfl, by decide +kernel, by decide +kernel⟩
def L_steps_on : LamD := match lamIn P "steps_on" with
  | some L => L
  | none => ⟨defArgs (topS 0), .Constant .none 0 ⟨0, 0, 0, 0⟩, defScope (topS 0)⟩
def c_WORDS : D := .tup [.str "gr", .str "gw", .str "own", .str "rr", .str "rw", .str "ss", .str "wr", .str "ww"]
def t_GREATEST : List (Str × D) := [("read", .tup [.int 1, .int 2]), ("write", .tup [.int 2, .int 9]), ("copy", .tup [.int 2, .int 1]), ("fence", .tup []), ("guard", .tup [.int 1, .int 9])]
def c_FIRST_CELLS : D := .tup [.int 0, .int 0, .int 0]
def wr_tab : List (Str × D) := [("NotMade", .bl true)]
def g__law_alike (rec : List D → Sto → Out D) : G Fl :=
  (sSeq (sIf (gTr (gCB mIsiT (aCons (gVar 1) (aCons (gTupD (aCons (gC (.raw (.ty "tuple"))) (aCons (gC (.raw (.ty "list"))) aNil))) aNil)))) (sSeq (sIf (gTOr (gTNot (gTr (gCB mIsiT (aCons (gVar 0) (aCons (gTupD (aCons (gC (.raw (.ty "tuple"))) (aCons (gC (.raw (.ty "list"))) aNil))) aNil))))) (gBl (gOp mNe (gCB mIsi (aCons (gVar 0) (aCons (gC (.raw (.ty "list"))) aNil))) (gCB mIsi (aCons (gVar 1) (aCons (gC (.raw (.ty "list"))) aNil)))))) (sRet (gC (.bl false))) sNext) (sSeq (sIf (gBl (gOp mNe (gCB mLen (aCons (gVar 0) aNil)) (gCB mLen (aCons (gVar 1) aNil)))) (sRet (gC (.bl false))) sNext) (sRet (gOp mEq (gComp [2] (gRange1 (aCons (gCB mLen (aCons (gVar 1) aNil)) aNil)) (.nm 2) (gTNot (gTr (gCall rec (aCons (gOp mIx (gVar 0) (gVar 2)) (aCons (gOp mIx (gVar 1) (gVar 2)) aNil))))) (gVar 2)) (gLstD aNil))))) sNext) (sSeq (sIf (gTOr (gBl (gOp mIs (gVar 1) (gC .non))) (gTr (gCB mIsi (aCons (gVar 1) (aCons (gC (.raw (.ty "str"))) aNil))))) (sRet (gAnd (gOp mEq (gVar 0) (gVar 1)) (gOp mEq (gCB mIsi (aCons (gVar 0) (aCons (gC (.raw (.ty "str"))) aNil))) (gCB mIsi (aCons (gVar 1) (aCons (gC (.raw (.ty "str"))) aNil)))))) sNext) (sRet (gAnd (gCB mIsi (aCons (gVar 0) (aCons (gC (.raw (.ty "int"))) aNil))) (gAnd (gOp mEq (gCB mIsi (aCons (gVar 0) (aCons (gC (.raw (.ty "bool"))) aNil))) (gCB mIsi (aCons (gVar 1) (aCons (gC (.raw (.ty "bool"))) aNil)))) (gOp mEq (gVar 0) (gVar 1)))))))
def m__law_alike : Nat → List D → Sto → Out D
  | 0 => gFun 3 sBad
  | n + 1 => gFun 3 (g__law_alike (m__law_alike n))
def g__law_begin : G Fl :=
  (sSeq (sSet 2 (gDispK ["design", "program", "done", "cells"] (aCons (gVar 0) (aCons (gVar 1) (aCons (gComp [3] (gSeq (gVar 1)) (.nm 3) gYes (gOpN mRepN (gLstD (aCons (gC (.bl false)) aNil)) (gCB mLen (aCons (gVar 3) aNil)))) (aCons (gLstM (aCons (gC (.int 0)) (aCons (gC (.int 0)) (aCons (gC (.int 0)) aNil)))) aNil)))))) (sSeq (sPut2K (gVar 2) "took" (gVar 2) "ends" (gTupD (aCons (gComp [3] (gSeq (gVar 1)) (.nm 3) gYes gDctM) (aCons (gOpN mRepN (gLstD (aCons (gC (.int 99)) aNil)) (gCB mLen (aCons (gVar 1) aNil))) aNil)))) (sRet (gVar 2))))
def m__law_begin : List D → Sto → Out D := gFun 4 g__law_begin
def g__law_taken : G Fl :=
  (sSeq (sIf (gBl (gOp mGt (gOp mIx (gVar 0) (gC (.int 3))) (gC (.int 0)))) (sSeq (sSet 2 (gOp mMod (gCB mInt (aCons (gOp mIx (gVar 0) (gC (.int 3))) aNil)) (gVar 1))) (sSeq (sPut (gVar 0) (gC (.int 3)) (gOp mFdiv (gOp mIx (gVar 0) (gC (.int 3))) (gVar 1))) (sRet (gVar 2)))) sNext) (sSeq (sPut (gVar 0) (gC (.int 1)) (gOp mAdd (gOp mIx (gVar 0) (gC (.int 1))) (gC (.int 1)))) (sSeq (sIf (gBl (gOp mGt (gOp mIx (gVar 0) (gC (.int 1))) (gCB mLen (aCons (gOp mIx (gVar 0) (gC (.int 0))) aNil)))) (sSeq (sPut (gVar 0) (gC (.int 2)) (gOp mMod (gCB mInt (aCons (gOp mAdd (gOp mMul (gOp mIx (gVar 0) (gC (.int 2))) (gC (.int 48271))) (gC (.int 11))) aNil)) (gC (.int 2147483647)))) (sRet (gOp mMod (gCB mInt (aCons (gOp mFdiv (gOp mIx (gVar 0) (gC (.int 2))) (gC (.int 7))) aNil)) (gVar 1)))) sNext) (sSeq (sSet 3 (gOp mIx (gOp mIx (gVar 0) (gC (.int 0))) (gOp mSub (gOp mIx (gVar 0) (gC (.int 1))) (gC (.int 1))))) (sSeq (sPut (gVar 0) (gC (.int 2)) (gOp mMod (gCB mInt (aCons (gOp mAdd (gOp mAdd (gOp mMul (gOp mIx (gVar 0) (gC (.int 2))) (gC (.int 48271))) (gVar 3)) (gC (.int 11))) aNil)) (gC (.int 2147483647)))) (sSeq (sIf (gBl (gOp mGe (gVar 3) (gOp mPow (gC (.int 10)) (gC (.int 18))))) (sPut (gVar 0) (gC (.int 3)) (gOp mFdiv (gVar 3) (gVar 1))) sNext) (sRet (gOp mMod (gCB mInt (aCons (gVar 3) aNil)) (gVar 1)))))))))
def m__law_taken : List D → Sto → Out D := gFun 4 g__law_taken
def g__law_design : G Fl :=
  (sRet (gCB mTuple (aCons (gComp [1] (gSeq (gLstD (aCons (gC (.str "gr")) (aCons (gC (.str "gw")) (aCons (gC (.str "own")) (aCons (gC (.str "rr")) (aCons (gC (.str "rw")) (aCons (gC (.str "ss")) (aCons (gC (.str "wr")) (aCons (gC (.str "ww")) aNil)))))))))) (.nm 1) (gBl (gOp mEq (gCall m__law_taken (aCons (gVar 0) (aCons (gC (.int 2)) aNil))) (gC (.int 0)))) (gVar 1)) aNil)))
def m__law_design : List D → Sto → Out D := gFun 2 g__law_design
def g__law_last : G Fl :=
  (sRet (gOp3 (gComp [5] (gRange1 (aCons (gVar 1) aNil)) (.nm 5) (gTAnd (gBl (gOp (mIn false) (gOp mIx (gOp mIx (gVar 0) (gVar 5)) (gC (.int 0))) (gVar 2))) (gBl (gOp mEq (gOp mIx (gOp mIx (gVar 0) (gVar 5)) (gVar 3)) (gVar 4)))) (gVar 5)) (gSome (gUn mNeg (gC (.int 1)))) gNone))
def m__law_last : List D → Sto → Out D := gFun 6 g__law_last
def g__law_word : G Fl :=
  (sSeq (sSet 4 (gCall m__law_last (aCons (gOp mIx (gOp mIxK (gVar 0) (gC (.str "program"))) (gVar 1)) (aCons (gVar 2) (aCons (gLstD (aCons (gC (.str "read")) aNil)) (aCons (gC (.int 1)) (aCons (gVar 3) aNil))))))) (sRet (gIf (gBl (gOp mNe (gVar 4) (gLstD aNil))) (gGetK (gOp mIx (gOp mIxK (gVar 0) (gC (.str "took"))) (gVar 1)) (gOp mIx (gVar 4) (gC (.int 0))) (gC (.int 0))) (gC (.int 0)))))
def m__law_word : List D → Sto → Out D := gFun 5 g__law_word
def g__law_written : G Fl :=
  (sSeq (sSet 3 (gOp mIx (gOp mIx (gOp mIxK (gVar 0) (gC (.str "program"))) (gVar 1)) (gVar 2))) (sRet (gIf (gBl (gOp mEq (gOp mIx (gVar 3) (gC (.int 0))) (gC (.str "write")))) (gOp mIx (gVar 3) (gC (.int 2))) (gCall m__law_word (aCons (gVar 0) (aCons (gVar 1) (aCons (gVar 2) (aCons (gOp mIx (gVar 3) (gC (.int 2))) aNil))))))))
def m__law_written : List D → Sto → Out D := gFun 4 g__law_written
def g__law_do : G Fl :=
  (sSeq (sPat (.tp [(.nm 2), (.nm 3)]) (gVar 1)) (sSeq (sSet 4 (gOp mIx (gOp mIx (gOp mIxK (gVar 0) (gC (.str "program"))) (gVar 2)) (gVar 3))) (sSeq (sPut (gOp mIx (gOp mIxK (gVar 0) (gC (.str "done"))) (gVar 2)) (gVar 3) (gC (.bl true))) (sSeq (sIf (gBl (gOp mEq (gOp mIx (gVar 4) (gC (.int 0))) (gC (.str "read")))) (sSeq (sSet 5 (gComp [6] (gSeq (gCall m__law_last (aCons (gOp mIx (gOp mIxK (gVar 0) (gC (.str "program"))) (gVar 2)) (aCons (gVar 3) (aCons (gLstD (aCons (gC (.str "write")) (aCons (gC (.str "copy")) aNil))) (aCons (gC (.int 1)) (aCons (gOp mIx (gVar 4) (gC (.int 2))) aNil))))))) (.nm 6) (gTNot (gTr (gOp mIx (gOp mIx (gOp mIxK (gVar 0) (gC (.str "done"))) (gVar 2)) (gVar 6)))) (gVar 6))) (sPutK (gOp mIx (gOp mIxK (gVar 0) (gC (.str "took"))) (gVar 2)) (gVar 3) (gIf (gBl (gOp mNe (gVar 5) (gLstD aNil))) (gCall m__law_written (aCons (gVar 0) (aCons (gVar 2) (aCons (gOp mIx (gVar 5) (gC (.int 0))) aNil)))) (gOp mIx (gOp mIxK (gVar 0) (gC (.str "cells"))) (gOp mIx (gVar 4) (gC (.int 2))))))) sNext) (sSeq (sIf (gBl (gOp (mIn false) (gOp mIx (gVar 4) (gC (.int 0))) (gLstD (aCons (gC (.str "write")) (aCons (gC (.str "copy")) aNil))))) (sPut (gOp mIxK (gVar 0) (gC (.str "cells"))) (gOp mIx (gVar 4) (gC (.int 1))) (gCall m__law_written (aCons (gVar 0) (aCons (gVar 2) (aCons (gVar 3) aNil))))) sNext) (sIf (gTAnd (gBl (gOp mEq (gOp mIx (gVar 4) (gC (.int 0))) (gC (.str "guard")))) (gBl (gOp mNe (gCall m__law_word (aCons (gVar 0) (aCons (gVar 2) (aCons (gVar 3) (aCons (gOp mIx (gVar 4) (gC (.int 1))) aNil))))) (gOp mIx (gVar 4) (gC (.int 2)))))) (sPut (gOp mIxK (gVar 0) (gC (.str "ends"))) (gVar 2) (gVar 3)) sNext))))))
def m__law_do : List D → Sto → Out D := gFun 7 g__law_do
def g__law_cell : G Fl :=
  (sRet (gIf (gBl (gOp mEq (gOp mIx (gVar 0) (gC (.int 0))) (gC (.str "read")))) (gOp mIx (gVar 0) (gC (.int 2))) (gIf (gBl (gOp (mIn false) (gOp mIx (gVar 0) (gC (.int 0))) (gLstD (aCons (gC (.str "write")) (aCons (gC (.str "copy")) aNil))))) (gOp mIx (gVar 0) (gC (.int 1))) (gC .non))))
def m__law_cell : List D → Sto → Out D := gFun 1 g__law_cell
def g__law_letter : G Fl :=
  (sRet (gTabIx [("read", "r"), ("write", "w"), ("copy", "w"), ("guard", "g"), ("fence", "f")] (gOp mIx (gVar 0) (gC (.int 0)))))
def m__law_letter : List D → Sto → Out D := gFun 1 g__law_letter
def g__law_must : G Fl :=
  (sSeq (sPar 4 5 (aCons (gOp mIx (gVar 1) (gVar 2)) (aCons (gOp mIx (gVar 1) (gVar 3)) aNil))) (sSeq (sSet 6 (gOp mAdd (gCall m__law_letter (aCons (gVar 4) aNil)) (gCall m__law_letter (aCons (gVar 5) aNil)))) (sSeq (sIf (gTOr (gBl (gOp (mIn false) (gC (.str "f")) (gVar 6))) (gBl (gOp mEq (gVar 6) (gC (.str "gg"))))) (sRet (gC (.bl true))) sNext) (sSeq (sIf (gTAnd (gBl (gOp (mIn false) (gOp mIx (gVar 5) (gC (.int 0))) (gLstD (aCons (gC (.str "copy")) (aCons (gC (.str "guard")) aNil))))) (gBl (gOp mEq (gLstD (aCons (gVar 2) aNil)) (gCall m__law_last (aCons (gVar 1) (aCons (gVar 3) (aCons (gLstD (aCons (gC (.str "read")) aNil)) (aCons (gC (.int 1)) (aCons (gIf (gBl (gOp mEq (gOp mIx (gVar 5) (gC (.int 0))) (gC (.str "copy")))) (gOp mIx (gVar 5) (gC (.int 2))) (gOp mIx (gVar 5) (gC (.int 1)))) aNil))))))))) (sRet (gC (.bl true))) sNext) (sSeq (sIf (gTAnd (gBl (gOp mEq (gOp mIx (gVar 5) (gC (.int 0))) (gC (.str "read")))) (gBl (gOp (mIn false) (gC (.str "own")) (gVar 0)))) (sFor (gSeq (gCall m__law_last (aCons (gVar 1) (aCons (gVar 3) (aCons (gLstD (aCons (gC (.str "write")) (aCons (gC (.str "copy")) aNil))) (aCons (gC (.int 1)) (aCons (gOp mIx (gVar 5) (gC (.int 2))) aNil))))))) (.nm 7) (sIf (gTAnd (gBl (gOp mEq (gOp mIx (gOp mIx (gVar 1) (gVar 7)) (gC (.int 0))) (gC (.str "copy")))) (gBl (gOp mEq (gLstD (aCons (gVar 2) aNil)) (gCall m__law_last (aCons (gVar 1) (aCons (gVar 7) (aCons (gLstD (aCons (gC (.str "read")) aNil)) (aCons (gC (.int 1)) (aCons (gOp mIx (gOp mIx (gVar 1) (gVar 7)) (gC (.int 2))) aNil))))))))) (sRet (gC (.bl true))) sNext)) sNext) (sSeq (sIf (gBl (gOp mEq (gOp mIx (gVar 6) (gC (.int 1))) (gC (.str "g")))) (sRet (gC (.bl false))) sNext) (sSeq (sIf (gTOr (gBl (gOp mEq (gOp mIx (gVar 6) (gC (.int 0))) (gC (.str "g")))) (gBl (gOp mNe (gCall m__law_cell (aCons (gVar 4) aNil)) (gCall m__law_cell (aCons (gVar 5) aNil))))) (sRet (gOp (mIn false) (gVar 6) (gVar 0))) sNext) (sSeq (sIf (gBl (gOp mEq (gVar 6) (gC (.str "rr")))) (sRet (gOp (mIn false) (gC (.str "ss")) (gVar 0))) sNext) (sRet (gOr (gOp mNe (gVar 6) (gC (.str "wr"))) (gOp (mIn true) (gC (.str "own")) (gVar 0))))))))))))
def m__law_must : List D → Sto → Out D := gFun 8 g__law_must
def g__law_can : G Fl :=
  (sSeq (sPat (.tp [(.nm 3), (.nm 4)]) (gTupD (aCons (gOp mIx (gOp mIxK (gVar 0) (gC (.str "program"))) (gVar 1)) (aCons (gOp mIx (gOp mIxK (gVar 0) (gC (.str "done"))) (gVar 1)) aNil)))) (sSeq (sIf (gTOr (gTr (gOp mIx (gVar 4) (gVar 2))) (gBl (gOp mGt (gVar 2) (gOp mIx (gOp mIxK (gVar 0) (gC (.str "ends"))) (gVar 1))))) (sRet (gC (.bl false))) sNext) (sSeq (sIf (gBl (gOp mNe (gComp [6] (gRange1 (aCons (gVar 2) aNil)) (.nm 6) (gTAnd (gTNot (gTr (gOp mIx (gVar 4) (gVar 6)))) (gTr (gCall m__law_must (aCons (gOp mIxK (gVar 0) (gC (.str "design"))) (aCons (gVar 3) (aCons (gVar 6) (aCons (gVar 2) aNil))))))) (gVar 6)) (gLstD aNil))) (sRet (gC (.bl false))) sNext) (sSeq (sSet 5 (gAnd (gOp mEq (gOp mIx (gOp mIx (gVar 3) (gVar 2)) (gC (.int 0))) (gC (.str "guard"))) (gOp mNe (gCall m__law_word (aCons (gVar 0) (aCons (gVar 1) (aCons (gVar 2) (aCons (gOp mIx (gOp mIx (gVar 3) (gVar 2)) (gC (.int 1))) aNil))))) (gOp mIx (gOp mIx (gVar 3) (gVar 2)) (gC (.int 2)))))) (sRet (gOr (gNot (gVar 5)) (gOp (mIn true) (gC (.bl true)) (gOp3 (gVar 4) (gSome (gOp mAdd (gVar 2) (gC (.int 1)))) gNone))))))))
def m__law_can : List D → Sto → Out D := gFun 7 g__law_can
def g__law_events : G Fl :=
  (sSeq (sSet 1 (gLstD aNil)) (sSeq (sFor (gRange1 (aCons (gCB mLen (aCons (gOp mIxK (gVar 0) (gC (.str "program"))) aNil)) aNil)) (.nm 2) (sSet 1 (gOp mAdd (gVar 1) (gComp [3] (gRange1 (aCons (gCB mLen (aCons (gOp mIx (gOp mIxK (gVar 0) (gC (.str "program"))) (gVar 2)) aNil)) aNil)) (.nm 3) (gTr (gCall m__law_can (aCons (gVar 0) (aCons (gVar 2) (aCons (gVar 3) aNil))))) (gTupD (aCons (gVar 2) (aCons (gVar 3) aNil))))))) (sRet (gVar 1))))
def m__law_events : List D → Sto → Out D := gFun 4 g__law_events
def g__law_outcome : G Fl :=
  (sSeq (sSet 1 (gLstM aNil)) (sSeq (sFor (gRange1 (aCons (gCB mLen (aCons (gOp mIxK (gVar 0) (gC (.str "program"))) aNil)) aNil)) (.nm 2) (sSeq (sSet 3 (gLstM (aCons (gC (.int 0)) (aCons (gC (.int 0)) aNil)))) (sSeq (sFor (gSeq (gCB mSortI (aCons (gCB mListK (aCons (gOp mIx (gOp mIxK (gVar 0) (gC (.str "took"))) (gVar 2)) aNil)) aNil))) (.nm 4) (sPut (gVar 3) (gOp mIx (gOp mIx (gOp mIx (gOp mIxK (gVar 0) (gC (.str "program"))) (gVar 2)) (gVar 4)) (gC (.int 1))) (gOp mIxK (gOp mIx (gOp mIxK (gVar 0) (gC (.str "took"))) (gVar 2)) (gVar 4)))) (sDrop (gAppend (gVar 1) (gCB mTuple (aCons (gVar 3) aNil))))))) (sRet (gTupD (aCons (gCB mTuple (aCons (gVar 1) aNil)) (aCons (gCB mTuple (aCons (gOp mIxK (gVar 0) (gC (.str "cells"))) aNil)) aNil))))))
def m__law_outcome : List D → Sto → Out D := gFun 5 g__law_outcome
def g__law_over : G Fl :=
  (sRet (gOp mEq (gComp [1] (gRange1 (aCons (gCB mLen (aCons (gOp mIxK (gVar 0) (gC (.str "done"))) aNil)) aNil)) (.nm 1) (gBl (gOp (mIn false) (gC (.bl false)) (gOp3 (gOp mIx (gOp mIxK (gVar 0) (gC (.str "done"))) (gVar 1)) gNone (gSome (gOp mAdd (gOp mIx (gOp mIxK (gVar 0) (gC (.str "ends"))) (gVar 1)) (gC (.int 1))))))) (gVar 1)) (gLstD aNil)))
def m__law_over : List D → Sto → Out D := gFun 2 g__law_over
def g__law_pick : G Fl :=
  (sRet (gOp mIx (gVar 1) (gCall m__law_taken (aCons (gVar 0) (aCons (gCB mLen (aCons (gVar 1) aNil)) aNil)))))
def m__law_pick : List D → Sto → Out D := gFun 2 g__law_pick
def g__law_instruction : G Fl :=
  (sSeq (sSet 1 (gCall m__law_pick (aCons (gVar 0) (aCons (gLstD (aCons (gC (.str "read")) (aCons (gC (.str "read")) (aCons (gC (.str "read")) (aCons (gC (.str "write")) (aCons (gC (.str "write")) (aCons (gC (.str "write")) (aCons (gC (.str "copy")) (aCons (gC (.str "fence")) (aCons (gC (.str "guard")) aNil)))))))))) aNil)))) (sSeq (sIf (gBl (gOp mEq (gVar 1) (gC (.str "fence")))) (sRet (gTupD (aCons (gC (.str "fence")) aNil))) sNext) (sSeq (sIf (gBl (gOp mEq (gVar 1) (gC (.str "write")))) (sRet (gTupD (aCons (gC (.str "write")) (aCons (gCall m__law_taken (aCons (gVar 0) (aCons (gC (.int 2)) aNil))) (aCons (gOp mAdd (gC (.int 1)) (gCall m__law_taken (aCons (gVar 0) (aCons (gC (.int 3)) aNil)))) aNil))))) sNext) (sSeq (sIf (gBl (gOp mEq (gVar 1) (gC (.str "copy")))) (sRet (gTupD (aCons (gC (.str "copy")) (aCons (gCall m__law_taken (aCons (gVar 0) (aCons (gC (.int 2)) aNil))) (aCons (gCall m__law_taken (aCons (gVar 0) (aCons (gC (.int 2)) aNil))) aNil))))) sNext) (sRet (gTupD (aCons (gVar 1) (aCons (gCall m__law_taken (aCons (gVar 0) (aCons (gC (.int 2)) aNil))) (aCons (gCall m__law_taken (aCons (gVar 0) (aCons (gC (.int 2)) aNil))) aNil)))))))))
def m__law_instruction : List D → Sto → Out D := gFun 2 g__law_instruction
def g__law_program : G Fl :=
  (sSeq (sPar 2 3 (aCons (gVar 1) (aCons (gTupD aNil) aNil))) (sSeq (sFor (gRange1 (aCons (gOp mAdd (gC (.int 1)) (gCall m__law_pick (aCons (gVar 0) (aCons (gLstD (aCons (gC (.int 0)) (aCons (gC (.int 1)) (aCons (gC (.int 1)) (aCons (gC (.int 1)) (aCons (gC (.int 2)) aNil)))))) aNil)))) aNil)) (.nm 4) (sSeq (sSet 5 (gCB mMin2 (aCons (gVar 2) (aCons (gCall m__law_taken (aCons (gVar 0) (aCons (gC (.int 5)) aNil))) aNil)))) (sSeq (sSet 3 (gOp mAdd (gVar 3) (gTupD (aCons (gCB mTuple (aCons (gComp [6] (gRange1 (aCons (gVar 5) aNil)) (.nm 6) gYes (gCall m__law_instruction (aCons (gVar 0) aNil))) aNil)) aNil)))) (sSet 2 (gOp mSub (gVar 2) (gVar 5)))))) (sRet (gVar 3))))
def m__law_program : List D → Sto → Out D := gFun 7 g__law_program
def g_is_design : G Fl :=
  (sRet (gAnd (gCB mIsi (aCons (gVar 0) (aCons (gC (.raw (.ty "tuple"))) aNil))) (gOp mEq (gVar 0) (gCB mTuple (aCons (gComp [1] (gSeq (gC c_WORDS)) (.nm 1) (gBl (gOp (mIn false) (gVar 1) (gVar 0))) (gVar 1)) aNil)))))
def m_is_design : List D → Sto → Out D := gFun 2 g_is_design
def g_check_design : G Fl :=
  (sIf (gTNot (gTr (gCall m_is_design (aCons (gVar 0) aNil)))) sBad sNext)
def m_check_design : List D → Sto → Out D := gFun 1 g_check_design
def g_is_number : G Fl :=
  (sRet (gAnd (gCB mIsi (aCons (gVar 0) (aCons (gC (.raw (.ty "int"))) aNil))) (gAnd (gNot (gCB mIsi (aCons (gVar 0) (aCons (gC (.raw (.ty "bool"))) aNil)))) (gB (gChain mLe mLe (gC (.int 0)) (gVar 0) (gVar 1))))))
def m_is_number : List D → Sto → Out D := gFun 2 g_is_number
def g_is_instruction : G Fl :=
  (sSeq (sIf (gTOr (gTNot (gTr (gCB mIsi (aCons (gVar 0) (aCons (gC (.raw (.ty "tuple"))) aNil))))) (gTOr (gBl (gOp mEq (gCB mLen (aCons (gVar 0) aNil)) (gC (.int 0)))) (gTNot (gTr (gCB mIsi (aCons (gOp mIx (gVar 0) (gC (.int 0))) (aCons (gC (.raw (.ty "str"))) aNil))))))) (sRet (gC (.bl false))) sNext) (sSeq (sSet 1 (gKGet t_GREATEST (gOp mIx (gVar 0) (gC (.int 0))))) (sSeq (sIf (gTOr (gBl (gOp mIs (gVar 1) (gC .non))) (gBl (gOp mNe (gCB mLen (aCons (gVar 0) aNil)) (gOp mAdd (gC (.int 1)) (gCB mLen (aCons (gVar 1) aNil)))))) (sRet (gC (.bl false))) sNext) (sRet (gCB mAll (aCons (gComp [2, 3] (gZip (aCons (gOp3 (gVar 0) (gSome (gC (.int 1))) gNone) (aCons (gVar 1) aNil))) (.tp [(.nm 2), (.nm 3)]) gYes (gCall m_is_number (aCons (gVar 2) (aCons (gVar 3) aNil)))) aNil))))))
def m_is_instruction : List D → Sto → Out D := gFun 4 g_is_instruction
def g_is_core : G Fl :=
  (sSeq (sIf (gTOr (gTNot (gTr (gCB mIsi (aCons (gVar 0) (aCons (gC (.raw (.ty "tuple"))) aNil))))) (gBl (gOp mGt (gCB mLen (aCons (gVar 0) aNil)) (gC (.int (5)))))) (sRet (gC (.bl false))) sNext) (sRet (gCB mAll (aCons (gComp [1] (gSeq (gVar 0)) (.nm 1) gYes (gCall m_is_instruction (aCons (gVar 1) aNil))) aNil))))
def m_is_core : List D → Sto → Out D := gFun 2 g_is_core
def g_check_program : G Fl :=
  (sSeq (sIf (gTOr (gTNot (gTr (gCB mIsi (aCons (gVar 0) (aCons (gC (.raw (.ty "tuple"))) aNil))))) (gTNot (gChain mLe mLe (gC (.int 1)) (gCB mLen (aCons (gVar 0) aNil)) (gC (.int (3)))))) sBad sNext) (sSeq (sSet 1 (gC (.int 0))) (sFor (gEnum (aCons (gVar 0) aNil)) (.tp [(.nm 2), (.nm 3)]) (sSeq (sIf (gTOr (gTNot (gTr (gCall m_is_core (aCons (gVar 3) aNil)))) (gBl (gOp mGt (gOp mAdd (gVar 1) (gCB mLen (aCons (gVar 3) aNil))) (gC (.int (10)))))) sBad sNext) (sAug mIAdd 1 (gCB mLen (aCons (gVar 3) aNil)))))))
def m_check_program : List D → Sto → Out D := gFun 4 g_check_program
def g_is_reading : G Fl :=
  (sRet (gOp mEq (gOp mIx (gVar 0) (gC (.int 0))) (gC (.str "read"))))
def m_is_reading : List D → Sto → Out D := gFun 1 g_is_reading
def g_is_writing : G Fl :=
  (sRet (gOp (mIn false) (gOp mIx (gVar 0) (gC (.int 0))) (gTupD (aCons (gC (.str "write")) (aCons (gC (.str "copy")) aNil)))))
def m_is_writing : List D → Sto → Out D := gFun 1 g_is_writing
def g_cell_of : G Fl :=
  (sSeq (sIf (gTr (gCall m_is_reading (aCons (gVar 0) aNil))) (sRet (gOp mIx (gVar 0) (gC (.int 2)))) sNext) (sSeq (sIf (gTr (gCall m_is_writing (aCons (gVar 0) aNil))) (sRet (gOp mIx (gVar 0) (gC (.int 1)))) sNext) (sRet (gC .non))))
def m_cell_of : List D → Sto → Out D := gFun 1 g_cell_of
def g_is_kept_behind_guard : G Fl :=
  (sSeq (sIf (gTr (gCall m_is_reading (aCons (gVar 1) aNil))) (sRet (gOp (mIn false) (gC (.str "gr")) (gVar 0))) sNext) (sSeq (sIf (gTr (gCall m_is_writing (aCons (gVar 1) aNil))) (sRet (gOp (mIn false) (gC (.str "gw")) (gVar 0))) sNext) (sRet (gC (.bl true)))))
def m_is_kept_behind_guard : List D → Sto → Out D := gFun 2 g_is_kept_behind_guard
def g_is_kept_on_cell : G Fl :=
  (sSeq (sIf (gTr (gCall m_is_writing (aCons (gVar 2) aNil))) (sRet (gC (.bl true))) sNext) (sSeq (sIf (gTr (gCall m_is_writing (aCons (gVar 1) aNil))) (sRet (gOp (mIn true) (gC (.str "own")) (gVar 0))) sNext) (sRet (gOp (mIn false) (gC (.str "ss")) (gVar 0)))))
def m_is_kept_on_cell : List D → Sto → Out D := gFun 3 g_is_kept_on_cell
def g_kind_of : G Fl :=
  (sSeq (sIf (gTr (gCall m_is_reading (aCons (gVar 0) aNil))) (sRet (gC (.str "r"))) sNext) (sRet (gC (.str "w"))))
def m_kind_of : List D → Sto → Out D := gFun 1 g_kind_of
def g_last_read : G Fl :=
  (sSeq (sSet 3 (gC .non)) (sSeq (sFor (gRange1 (aCons (gVar 2) aNil)) (.nm 4) (sIf (gTAnd (gTr (gCall m_is_reading (aCons (gOp mIx (gVar 0) (gVar 4)) aNil))) (gBl (gOp mEq (gOp mIx (gOp mIx (gVar 0) (gVar 4)) (gC (.int 1))) (gVar 1)))) (sSet 3 (gVar 4)) sNext)) (sRet (gVar 3))))
def m_last_read : List D → Sto → Out D := gFun 5 g_last_read
def g_used_by : G Fl :=
  (sSeq (sIf (gBl (gOp mEq (gOp mIx (gVar 0) (gC (.int 0))) (gC (.str "copy")))) (sRet (gOp mIx (gVar 0) (gC (.int 2)))) sNext) (sSeq (sIf (gBl (gOp mEq (gOp mIx (gVar 0) (gC (.int 0))) (gC (.str "guard")))) (sRet (gOp mIx (gVar 0) (gC (.int 1)))) sNext) (sRet (gC .non))))
def m_used_by : List D → Sto → Out D := gFun 1 g_used_by
def g_is_kept : G Fl :=
  (sSeq (sPar 4 5 (aCons (gOp mIx (gVar 1) (gVar 2)) (aCons (gOp mIx (gVar 1) (gVar 3)) aNil))) (sSeq (sIf (gTOr (gBl (gOp mEq (gOp mIx (gVar 4) (gC (.int 0))) (gC (.str "fence")))) (gBl (gOp mEq (gOp mIx (gVar 5) (gC (.int 0))) (gC (.str "fence"))))) (sRet (gC (.bl true))) sNext) (sSeq (sIf (gTAnd (gBl (gOp mIsNot (gCall m_used_by (aCons (gVar 5) aNil)) (gC .non))) (gBl (gOp mEq (gCall m_last_read (aCons (gVar 1) (aCons (gCall m_used_by (aCons (gVar 5) aNil)) (aCons (gVar 3) aNil)))) (gVar 2)))) (sRet (gC (.bl true))) sNext) (sSeq (sIf (gBl (gOp mEq (gOp mIx (gVar 4) (gC (.int 0))) (gC (.str "guard")))) (sRet (gCall m_is_kept_behind_guard (aCons (gVar 0) (aCons (gVar 5) aNil)))) sNext) (sSeq (sIf (gTOr (gBl (gOp mIs (gCall m_cell_of (aCons (gVar 4) aNil)) (gC .non))) (gBl (gOp mIs (gCall m_cell_of (aCons (gVar 5) aNil)) (gC .non)))) (sRet (gC (.bl false))) sNext) (sSeq (sIf (gBl (gOp mEq (gCall m_cell_of (aCons (gVar 4) aNil)) (gCall m_cell_of (aCons (gVar 5) aNil)))) (sRet (gCall m_is_kept_on_cell (aCons (gVar 0) (aCons (gVar 4) (aCons (gVar 5) aNil))))) sNext) (sRet (gOp (mIn false) (gOp mAdd (gCall m_kind_of (aCons (gVar 4) aNil)) (gCall m_kind_of (aCons (gVar 5) aNil))) (gVar 0)))))))))
def m_is_kept : List D → Sto → Out D := gFun 6 g_is_kept
def g_last_writing : G Fl :=
  (sSeq (sSet 3 (gC .non)) (sSeq (sFor (gRange1 (aCons (gVar 2) aNil)) (.nm 4) (sIf (gTAnd (gTr (gCall m_is_writing (aCons (gOp mIx (gVar 0) (gVar 4)) aNil))) (gBl (gOp mEq (gCall m_cell_of (aCons (gOp mIx (gVar 0) (gVar 4)) aNil)) (gVar 1)))) (sSet 3 (gVar 4)) sNext)) (sRet (gVar 3))))
def m_last_writing : List D → Sto → Out D := gFun 5 g_last_writing
def g_waits_for_copied : G Fl :=
  (sSeq (sIf (gTOr (gBl (gOp (mIn true) (gC (.str "own")) (gVar 0))) (gTNot (gTr (gCall m_is_reading (aCons (gOp mIx (gVar 1) (gVar 3)) aNil))))) (sRet (gC (.bl false))) sNext) (sSeq (sSet 4 (gCall m_last_writing (aCons (gVar 1) (aCons (gCall m_cell_of (aCons (gOp mIx (gVar 1) (gVar 3)) aNil)) (aCons (gVar 3) aNil))))) (sSeq (sIf (gTOr (gBl (gOp mIs (gVar 4) (gC .non))) (gBl (gOp mNe (gOp mIx (gOp mIx (gVar 1) (gVar 4)) (gC (.int 0))) (gC (.str "copy"))))) (sRet (gC (.bl false))) sNext) (sRet (gOp mEq (gCall m_last_read (aCons (gVar 1) (aCons (gCall m_used_by (aCons (gOp mIx (gVar 1) (gVar 4)) aNil)) (aCons (gVar 4) aNil)))) (gVar 2))))))
def m_waits_for_copied : List D → Sto → Out D := gFun 5 g_waits_for_copied
def g_must_wait : G Fl :=
  (sRet (gOr (gCall m_is_kept (aCons (gVar 0) (aCons (gVar 1) (aCons (gVar 2) (aCons (gVar 3) aNil))))) (gCall m_waits_for_copied (aCons (gVar 0) (aCons (gVar 1) (aCons (gVar 2) (aCons (gVar 3) aNil)))))))
def m_must_wait : List D → Sto → Out D := gFun 4 g_must_wait
def g_source_of : G Fl :=
  (sSeq (sSet 2 (gOp mIx (gVar 0) (gVar 1))) (sSeq (sIf (gTr (gCall m_is_reading (aCons (gVar 2) aNil))) (sRet (gCall m_last_writing (aCons (gVar 0) (aCons (gCall m_cell_of (aCons (gVar 2) aNil)) (aCons (gVar 1) aNil))))) sNext) (sSeq (sIf (gBl (gOp mIsNot (gCall m_used_by (aCons (gVar 2) aNil)) (gC .non))) (sRet (gCall m_last_read (aCons (gVar 0) (aCons (gCall m_used_by (aCons (gVar 2) aNil)) (aCons (gVar 1) aNil))))) sNext) (sRet (gC .non)))))
def m_source_of : List D → Sto → Out D := gFun 3 g_source_of
def lg_steps_on : G D :=
  (gCall m_must_wait (aCons (gVar 0) (aCons (gVar 1) (aCons (gVar 2) (aCons (gVar 3) aNil)))))
def clo_tab : List (Str × G D) := [("steps_on", lg_steps_on)]
def g_Step_init : G Fl :=
  (sSeq (sFldSet "Step" "event" (gVar 0) (gTupD (aCons (gVar 1) (aCons (gVar 3) aNil)))) (sSeq (sFldSet "Step" "instruction" (gVar 0) (gOp mIx (gVar 2) (gVar 3))) (sSeq (sFldSet "Step" "waits" (gVar 0) (gCB mTuple (aCons (gComp [7] (gRange1 (aCons (gVar 3) aNil)) (.nm 7) (gTr (gClo 5 clo_tab (aCons (gVar 2) (aCons (gVar 7) (aCons (gVar 3) aNil))))) (gOp mAdd (gVar 4) (gVar 7))) aNil))) (sSeq (sFldSet "Step" "behind" (gVar 0) (gCB mTuple (aCons (gComp [8] (gRange2 (aCons (gOp mAdd (gVar 3) (gC (.int 1))) (aCons (gCB mLen (aCons (gVar 2) aNil)) aNil))) (.nm 8) gYes (gOp mAdd (gVar 4) (gVar 8))) aNil))) (sSeq (sSet 6 (gCall m_source_of (aCons (gVar 2) (aCons (gVar 3) aNil)))) (sFldSet "Step" "source" (gVar 0) (gIf (gBl (gOp mIs (gVar 6) (gC .non))) (gC .non) (gOp mAdd (gVar 4) (gVar 6)))))))))
def m_Step_init : List D → Sto → Out D := gFun 9 g_Step_init
def g_make_steps : G Fl :=
  (sSeq (sSet 2 (gLstD aNil)) (sSeq (sFor (gEnum (aCons (gVar 0) aNil)) (.tp [(.nm 3), (.nm 4)]) (sSeq (sSet 5 (gCB mLen (aCons (gVar 2) aNil))) (sSet 2 (gOp mAdd (gVar 2) (gComp [6] (gRange1 (aCons (gCB mLen (aCons (gVar 4) aNil)) aNil)) (.nm 6) gYes (gMake "Step" m_Step_init (aCons (gVar 3) (aCons (gVar 4) (aCons (gVar 6) (aCons (gVar 5) (aCons (gVar 1) aNil))))))))))) (sRet (gVar 2))))
def m_make_steps : List D → Sto → Out D := gFun 7 g_make_steps
def g_steps_on : G Fl :=
  (sRet (gLamArg "steps_on" [0] m_make_steps (gVar 1)))
def m_steps_on : List D → Sto → Out D := gFun 2 g_steps_on
def g_checked_steps : G Fl :=
  (sSeq (sDrop (gCall m_check_design (aCons (gVar 0) aNil))) (sSeq (sDrop (gCall m_check_program (aCons (gVar 1) aNil))) (sRet (gCall m_steps_on (aCons (gVar 0) (aCons (gVar 1) aNil))))))
def m_checked_steps : List D → Sto → Out D := gFun 2 g_checked_steps
def g_first_state : G Fl :=
  (sRet (gTupD (aCons (gOp mRepA (gTupD (aCons (gC .non) aNil)) (gCB mLen (aCons (gVar 0) aNil))) (aCons (gC c_FIRST_CELLS) aNil))))
def m_first_state : List D → Sto → Out D := gFun 1 g_first_state
def g_number_of : G Fl :=
  (sSeq (sIf (gTOr (gTNot (gTr (gCB mIsi (aCons (gVar 1) (aCons (gC (.raw (.ty "tuple"))) aNil))))) (gTNot (gTr (gCB mAll (aCons (gComp [4] (gSeq (gVar 1)) (.nm 4) gYes (gCall m_is_number (aCons (gVar 4) (aCons (gC (.int (10))) aNil)))) aNil))))) (sRet (gC .non)) sNext) (sSeq (sFor (gEnum (aCons (gVar 0) aNil)) (.tp [(.nm 2), (.nm 3)]) (sIf (gBl (gOp mEq (gFld "Step" "event" (gVar 3)) (gVar 1))) (sRet (gVar 2)) sNext)) (sRet (gC .non))))
def m_number_of : List D → Sto → Out D := gFun 5 g_number_of
def g_word_used : G Fl :=
  (sSeq (sIf (gBl (gOp mIs (gFld "Step" "source" (gVar 0)) (gC .non))) (sRet (gC (.int 0))) sNext) (sRet (gOp mIx (gVar 1) (gFld "Step" "source" (gVar 0)))))
def m_word_used : List D → Sto → Out D := gFun 2 g_word_used
def g_ends_core : G Fl :=
  (sRet (gAnd (gOp mEq (gOp mIx (gFld "Step" "instruction" (gVar 0)) (gC (.int 0))) (gC (.str "guard"))) (gOp mNe (gCall m_word_used (aCons (gVar 0) (aCons (gVar 1) aNil))) (gOp mIx (gFld "Step" "instruction" (gVar 0)) (gC (.int 2))))))
def m_ends_core : List D → Sto → Out D := gFun 2 g_ends_core
def g_word_written : G Fl :=
  (sSeq (sIf (gBl (gOp mEq (gOp mIx (gFld "Step" "instruction" (gVar 0)) (gC (.int 0))) (gC (.str "write")))) (sRet (gOp mIx (gFld "Step" "instruction" (gVar 0)) (gC (.int 2)))) sNext) (sRet (gCall m_word_used (aCons (gVar 0) (aCons (gVar 1) aNil)))))
def m_word_written : List D → Sto → Out D := gFun 2 g_word_written
def g_word_taken : G Fl :=
  (sSeq (sPat (.tp [(.nm 3), (.nm 4)]) (gVar 1)) (sSeq (sIf (gTAnd (gBl (gOp mIsNot (gFld "Step" "source" (gVar 2)) (gC .non))) (gBl (gOp mIs (gOp mIx (gVar 3) (gFld "Step" "source" (gVar 2))) (gC .non)))) (sRet (gCall m_word_written (aCons (gOp mIx (gVar 0) (gFld "Step" "source" (gVar 2))) (aCons (gVar 3) aNil)))) sNext) (sRet (gOp mIx (gVar 4) (gCall m_cell_of (aCons (gFld "Step" "instruction" (gVar 2)) aNil))))))
def m_word_taken : List D → Sto → Out D := gFun 5 g_word_taken
def g_state_behind : G Fl :=
  (sSeq (sSet 3 (gOp mIx (gVar 0) (gVar 2))) (sSeq (sPar 4 5 (aCons (gCBN mListN (aCons (gOp mIx (gVar 1) (gC (.int 0))) aNil)) (aCons (gCBN mListN (aCons (gOp mIx (gVar 1) (gC (.int 1))) aNil)) aNil))) (sSeq (sPut (gVar 4) (gVar 2) (gC (.int 0))) (sSeq (sIf (gTr (gCall m_is_reading (aCons (gFld "Step" "instruction" (gVar 3)) aNil))) (sPut (gVar 4) (gVar 2) (gCall m_word_taken (aCons (gVar 0) (aCons (gVar 1) (aCons (gVar 3) aNil))))) (sIf (gTr (gCall m_is_writing (aCons (gFld "Step" "instruction" (gVar 3)) aNil))) (sPut (gVar 5) (gCall m_cell_of (aCons (gFld "Step" "instruction" (gVar 3)) aNil)) (gCall m_word_written (aCons (gVar 3) (aCons (gOp mIx (gVar 1) (gC (.int 0))) aNil)))) (sIf (gTr (gCall m_ends_core (aCons (gVar 3) (aCons (gOp mIx (gVar 1) (gC (.int 0))) aNil)))) (sFor (gSeq (gFld "Step" "behind" (gVar 3))) (.nm 6) (sPut (gVar 4) (gVar 6) (gC (.int (-1))))) sNext))) (sRet (gTupD (aCons (gCB mTuple (aCons (gVar 4) aNil)) (aCons (gCB mTuple (aCons (gVar 5) aNil)) aNil))))))))
def m_state_behind : List D → Sto → Out D := gFun 7 g_state_behind
def g_can_come : G Fl :=
  (sSeq (sFor (gSeq (gFld "Step" "waits" (gVar 0))) (.nm 2) (sIf (gBl (gOp mIs (gOp mIx (gVar 1) (gVar 2)) (gC .non))) (sRet (gC (.bl false))) sNext)) (sRet (gOr (gNot (gCall m_ends_core (aCons (gVar 0) (aCons (gVar 1) aNil)))) (gCB mAll (aCons (gComp [2] (gSeq (gFld "Step" "behind" (gVar 0))) (.nm 2) gYes (gOp mIs (gOp mIx (gVar 1) (gVar 2)) (gC .non))) aNil)))))
def m_can_come : List D → Sto → Out D := gFun 3 g_can_come
def g_steps_now : G Fl :=
  (sSeq (sSet 2 (gOp mIx (gVar 1) (gC (.int 0)))) (sRet (gComp [3, 4] (gEnum (aCons (gVar 0) aNil)) (.tp [(.nm 3), (.nm 4)]) (gTAnd (gBl (gOp mIs (gOp mIx (gVar 2) (gVar 3)) (gC .non))) (gTr (gCall m_can_come (aCons (gVar 4) (aCons (gVar 2) aNil))))) (gVar 3))))
def m_steps_now : List D → Sto → Out D := gFun 5 g_steps_now
def g_state_behind_row : G Fl :=
  (sSeq (sIf (gTOr (gTNot (gTr (gCB mIsi (aCons (gVar 1) (aCons (gC (.raw (.ty "tuple"))) aNil))))) (gBl (gOp mGt (gCB mLen (aCons (gVar 1) aNil)) (gC (.int (10)))))) sBad sNext) (sSeq (sSet 2 (gCall m_first_state (aCons (gVar 0) aNil))) (sSeq (sFor (gEnum (aCons (gVar 1) aNil)) (.tp [(.nm 3), (.nm 4)]) (sSeq (sSet 5 (gCall m_number_of (aCons (gVar 0) (aCons (gVar 4) aNil)))) (sSeq (sIf (gBl (gOp (mIn true) (gVar 5) (gCall m_steps_now (aCons (gVar 0) (aCons (gVar 2) aNil))))) sBad sNext) (sSet 2 (gCall m_state_behind (aCons (gVar 0) (aCons (gVar 2) (aCons (gVar 5) aNil)))))))) (sRet (gVar 2)))))
def m_state_behind_row : List D → Sto → Out D := gFun 6 g_state_behind_row
def g_events_behind : G Fl :=
  (sSeq (sSet 3 (gCall m_checked_steps (aCons (gVar 0) (aCons (gVar 1) aNil)))) (sSeq (sSet 4 (gCall m_state_behind_row (aCons (gVar 3) (aCons (gVar 2) aNil)))) (sRet (gCB mTuple (aCons (gComp [5] (gSeq (gCall m_steps_now (aCons (gVar 3) (aCons (gVar 4) aNil)))) (.nm 5) gYes (gFld "Step" "event" (gOp mIx (gVar 3) (gVar 5)))) aNil)))))
def m_events_behind : List D → Sto → Out D := gFun 6 g_events_behind
def g_is_over : G Fl :=
  (sRet (gOp (mIn true) (gC .non) (gOp mIx (gVar 0) (gC (.int 0)))))
def m_is_over : List D → Sto → Out D := gFun 1 g_is_over
def g_has_ended : G Fl :=
  (sSeq (sSet 3 (gCall m_checked_steps (aCons (gVar 0) (aCons (gVar 1) aNil)))) (sRet (gCall m_is_over (aCons (gCall m_state_behind_row (aCons (gVar 3) (aCons (gVar 2) aNil))) aNil))))
def m_has_ended : List D → Sto → Out D := gFun 4 g_has_ended
def g_outcome_of : G Fl :=
  (sSeq (sSet 3 (gComp [6] (gSeq (gVar 1)) (.nm 6) gYes (gLstM (aCons (gC (.int 0)) (aCons (gC (.int 0)) aNil))))) (sSeq (sFor (gZipM (aCons (gVar 0) (aCons (gOp mIx (gVar 2) (gC (.int 0))) aNil))) (.tp [(.nm 4), (.nm 5)]) (sIf (gTAnd (gTr (gCall m_is_reading (aCons (gFld "Step" "instruction" (gVar 4)) aNil))) (gBl (gOp mNe (gVar 5) (gC (.int (-1)))))) (sPut (gOp mIx (gVar 3) (gOp mIx (gFld "Step" "event" (gVar 4)) (gC (.int 0)))) (gOp mIx (gFld "Step" "instruction" (gVar 4)) (gC (.int 1))) (gVar 5)) sNext)) (sRet (gTupD (aCons (gCB mTuple (aCons (gComp [7] (gSeq (gVar 3)) (.nm 7) gYes (gCB mTuple (aCons (gVar 7) aNil))) aNil)) (aCons (gOp mIx (gVar 2) (gC (.int 1))) aNil))))))
def m_outcome_of : List D → Sto → Out D := gFun 8 g_outcome_of
def g_told_by : G Fl :=
  (sSeq (sSet 3 (gCall m_checked_steps (aCons (gVar 0) (aCons (gVar 1) aNil)))) (sSeq (sSet 4 (gCall m_state_behind_row (aCons (gVar 3) (aCons (gVar 2) aNil)))) (sSeq (sIf (gTNot (gTr (gCall m_is_over (aCons (gVar 4) aNil)))) (sRaise "NotMade") sNext) (sRet (gCall m_outcome_of (aCons (gVar 3) (aCons (gVar 1) (aCons (gVar 4) aNil))))))))
def m_told_by : List D → Sto → Out D := gFun 5 g_told_by
def g_law : G Fl :=
  (sSeq (sSet 1 (gLstM (aCons (gVar 0) (aCons (gC (.int 0)) (aCons (gC (.int 14243)) (aCons (gC (.int 0)) aNil)))))) (sSeq (sPat (.tp [(.nm 2), (.nm 3), (.nm 4)]) (gTupD (aCons (gCall m__law_design (aCons (gVar 1) aNil)) (aCons (gCall m__law_program (aCons (gVar 1) (aCons (gC (.int 10)) aNil))) (aCons (gTupD aNil) aNil))))) (sSeq (sSet 5 (gCall m__law_begin (aCons (gVar 2) (aCons (gVar 3) aNil)))) (sSeq (sFor (gRange1 (aCons (gC (.int 11)) aNil)) (.nm 6) (sSeq (sSet 7 (gCall m__law_events (aCons (gVar 5) aNil))) (sSeq (sIf (gTNot (gTr (gCall (m__law_alike 5) (aCons (gCall m_events_behind (aCons (gVar 2) (aCons (gVar 3) (aCons (gVar 4) aNil)))) (aCons (gCB mTuple (aCons (gVar 7) aNil)) aNil))))) (sRet (gC (.bl false))) sNext) (sSeq (sIf (gTNot (gTr (gCall (m__law_alike 5) (aCons (gCall m_has_ended (aCons (gVar 2) (aCons (gVar 3) (aCons (gVar 4) aNil)))) (aCons (gCall m__law_over (aCons (gVar 5) aNil)) aNil))))) (sRet (gC (.bl false))) sNext) (sSeq (sIf (gTAnd (gTr (gCall m__law_over (aCons (gVar 5) aNil))) (gTOr (gBl (gOp mNe (gVar 7) (gLstD aNil))) (gTNot (gTr (gCall (m__law_alike 5) (aCons (gCall m_told_by (aCons (gVar 2) (aCons (gVar 3) (aCons (gVar 4) aNil)))) (aCons (gCall m__law_outcome (aCons (gVar 5) aNil)) aNil))))))) (sRet (gC (.bl false))) sNext) (sSeq (sIf (gTAnd (gTNot (gTr (gCall m__law_over (aCons (gVar 5) aNil)))) (gTNot (gTr (gWrong lamQ wr_tab (.bl false) (gCall m_told_by (aCons (gVar 2) (aCons (gVar 3) (aCons (gVar 4) aNil)))))))) (sRet (gC (.bl false))) sNext) (sIf (gBl (gOp mNe (gVar 7) (gLstD aNil))) (sSeq (sSet 8 (gCall m__law_pick (aCons (gVar 1) (aCons (gVar 7) aNil)))) (sSeq (sDrop (gCall m__law_do (aCons (gVar 5) (aCons (gVar 8) aNil)))) (sSet 4 (gOp mAdd (gVar 4) (gTupD (aCons (gVar 8) aNil)))))) sNext))))))) (sRet (gC (.bl true)))))))
def m_law : List D → Sto → Out D := gFun 9 g_law
structure Txt (K : PySem.W.Frag) (w : World) (mg : Str → Option Value) where
  a__law_alike : Addr
  d__law_alike : FuncData
  F__law_alike : Fun K "_law_alike" "_law_alike" s__law_alike a__law_alike d__law_alike
  b__law_alike : Binds K d__law_alike ["found", "due"] []
  g__law_alike : mg "_law_alike" = some (.ref a__law_alike)
  a__law_begin : Addr
  d__law_begin : FuncData
  F__law_begin : Fun K "_law_begin" "_law_begin" s__law_begin a__law_begin d__law_begin
  b__law_begin : Binds K d__law_begin ["design", "program"] []
  g__law_begin : mg "_law_begin" = some (.ref a__law_begin)
  a__law_taken : Addr
  d__law_taken : FuncData
  F__law_taken : Fun K "_law_taken" "_law_taken" s__law_taken a__law_taken d__law_taken
  b__law_taken : Binds K d__law_taken ["row", "many"] []
  g__law_taken : mg "_law_taken" = some (.ref a__law_taken)
  a__law_design : Addr
  d__law_design : FuncData
  F__law_design : Fun K "_law_design" "_law_design" s__law_design a__law_design d__law_design
  b__law_design : Binds K d__law_design ["row"] []
  g__law_design : mg "_law_design" = some (.ref a__law_design)
  a__law_last : Addr
  d__law_last : FuncData
  F__law_last : Fun K "_law_last" "_law_last" s__law_last a__law_last d__law_last
  b__law_last : Binds K d__law_last ["core", "place", "kinds", "spot", "name"] []
  g__law_last : mg "_law_last" = some (.ref a__law_last)
  a__law_word : Addr
  d__law_word : FuncData
  F__law_word : Fun K "_law_word" "_law_word" s__law_word a__law_word d__law_word
  b__law_word : Binds K d__law_word ["run", "c", "place", "name"] []
  g__law_word : mg "_law_word" = some (.ref a__law_word)
  a__law_written : Addr
  d__law_written : FuncData
  F__law_written : Fun K "_law_written" "_law_written" s__law_written a__law_written d__law_written
  b__law_written : Binds K d__law_written ["run", "c", "place"] []
  g__law_written : mg "_law_written" = some (.ref a__law_written)
  a__law_do : Addr
  d__law_do : FuncData
  F__law_do : Fun K "_law_do" "_law_do" s__law_do a__law_do d__law_do
  b__law_do : Binds K d__law_do ["run", "event"] []
  g__law_do : mg "_law_do" = some (.ref a__law_do)
  a__law_cell : Addr
  d__law_cell : FuncData
  F__law_cell : Fun K "_law_cell" "_law_cell" s__law_cell a__law_cell d__law_cell
  b__law_cell : Binds K d__law_cell ["one"] []
  g__law_cell : mg "_law_cell" = some (.ref a__law_cell)
  a__law_letter : Addr
  d__law_letter : FuncData
  F__law_letter : Fun K "_law_letter" "_law_letter" s__law_letter a__law_letter d__law_letter
  b__law_letter : Binds K d__law_letter ["one"] []
  g__law_letter : mg "_law_letter" = some (.ref a__law_letter)
  a__law_must : Addr
  d__law_must : FuncData
  F__law_must : Fun K "_law_must" "_law_must" s__law_must a__law_must d__law_must
  b__law_must : Binds K d__law_must ["design", "core", "i", "j"] []
  g__law_must : mg "_law_must" = some (.ref a__law_must)
  a__law_can : Addr
  d__law_can : FuncData
  F__law_can : Fun K "_law_can" "_law_can" s__law_can a__law_can d__law_can
  b__law_can : Binds K d__law_can ["run", "c", "place"] []
  g__law_can : mg "_law_can" = some (.ref a__law_can)
  a__law_events : Addr
  d__law_events : FuncData
  F__law_events : Fun K "_law_events" "_law_events" s__law_events a__law_events d__law_events
  b__law_events : Binds K d__law_events ["run"] []
  g__law_events : mg "_law_events" = some (.ref a__law_events)
  a__law_outcome : Addr
  d__law_outcome : FuncData
  F__law_outcome : Fun K "_law_outcome" "_law_outcome" s__law_outcome a__law_outcome d__law_outcome
  b__law_outcome : Binds K d__law_outcome ["run"] []
  g__law_outcome : mg "_law_outcome" = some (.ref a__law_outcome)
  a__law_over : Addr
  d__law_over : FuncData
  F__law_over : Fun K "_law_over" "_law_over" s__law_over a__law_over d__law_over
  b__law_over : Binds K d__law_over ["run"] []
  g__law_over : mg "_law_over" = some (.ref a__law_over)
  a__law_pick : Addr
  d__law_pick : FuncData
  F__law_pick : Fun K "_law_pick" "_law_pick" s__law_pick a__law_pick d__law_pick
  b__law_pick : Binds K d__law_pick ["row", "kinds"] []
  g__law_pick : mg "_law_pick" = some (.ref a__law_pick)
  a__law_instruction : Addr
  d__law_instruction : FuncData
  F__law_instruction : Fun K "_law_instruction" "_law_instruction" s__law_instruction a__law_instruction d__law_instruction
  b__law_instruction : Binds K d__law_instruction ["row"] []
  g__law_instruction : mg "_law_instruction" = some (.ref a__law_instruction)
  a__law_program : Addr
  d__law_program : FuncData
  F__law_program : Fun K "_law_program" "_law_program" s__law_program a__law_program d__law_program
  b__law_program : Binds K d__law_program ["row", "most"] []
  g__law_program : mg "_law_program" = some (.ref a__law_program)
  a_is_design : Addr
  d_is_design : FuncData
  F_is_design : Fun K "is_design" "is_design" s_is_design a_is_design d_is_design
  b_is_design : Binds K d_is_design ["value"] []
  g_is_design : mg "is_design" = some (.ref a_is_design)
  a_check_design : Addr
  d_check_design : FuncData
  F_check_design : Fun K "check_design" "check_design" s_check_design a_check_design d_check_design
  b_check_design : Binds K d_check_design ["value"] []
  g_check_design : mg "check_design" = some (.ref a_check_design)
  a_is_number : Addr
  d_is_number : FuncData
  F_is_number : Fun K "is_number" "is_number" s_is_number a_is_number d_is_number
  b_is_number : Binds K d_is_number ["value", "greatest"] []
  g_is_number : mg "is_number" = some (.ref a_is_number)
  a_is_instruction : Addr
  d_is_instruction : FuncData
  F_is_instruction : Fun K "is_instruction" "is_instruction" s_is_instruction a_is_instruction d_is_instruction
  b_is_instruction : Binds K d_is_instruction ["value"] []
  g_is_instruction : mg "is_instruction" = some (.ref a_is_instruction)
  a_is_core : Addr
  d_is_core : FuncData
  F_is_core : Fun K "is_core" "is_core" s_is_core a_is_core d_is_core
  b_is_core : Binds K d_is_core ["value"] []
  g_is_core : mg "is_core" = some (.ref a_is_core)
  a_check_program : Addr
  d_check_program : FuncData
  F_check_program : Fun K "check_program" "check_program" s_check_program a_check_program d_check_program
  b_check_program : Binds K d_check_program ["value"] []
  g_check_program : mg "check_program" = some (.ref a_check_program)
  a_is_reading : Addr
  d_is_reading : FuncData
  F_is_reading : Fun K "is_reading" "is_reading" s_is_reading a_is_reading d_is_reading
  b_is_reading : Binds K d_is_reading ["instruction"] []
  g_is_reading : mg "is_reading" = some (.ref a_is_reading)
  a_is_writing : Addr
  d_is_writing : FuncData
  F_is_writing : Fun K "is_writing" "is_writing" s_is_writing a_is_writing d_is_writing
  b_is_writing : Binds K d_is_writing ["instruction"] []
  g_is_writing : mg "is_writing" = some (.ref a_is_writing)
  a_cell_of : Addr
  d_cell_of : FuncData
  F_cell_of : Fun K "cell_of" "cell_of" s_cell_of a_cell_of d_cell_of
  b_cell_of : Binds K d_cell_of ["instruction"] []
  g_cell_of : mg "cell_of" = some (.ref a_cell_of)
  a_is_kept_behind_guard : Addr
  d_is_kept_behind_guard : FuncData
  F_is_kept_behind_guard : Fun K "is_kept_behind_guard" "is_kept_behind_guard" s_is_kept_behind_guard a_is_kept_behind_guard d_is_kept_behind_guard
  b_is_kept_behind_guard : Binds K d_is_kept_behind_guard ["design", "later"] []
  g_is_kept_behind_guard : mg "is_kept_behind_guard" = some (.ref a_is_kept_behind_guard)
  a_is_kept_on_cell : Addr
  d_is_kept_on_cell : FuncData
  F_is_kept_on_cell : Fun K "is_kept_on_cell" "is_kept_on_cell" s_is_kept_on_cell a_is_kept_on_cell d_is_kept_on_cell
  b_is_kept_on_cell : Binds K d_is_kept_on_cell ["design", "earlier", "later"] []
  g_is_kept_on_cell : mg "is_kept_on_cell" = some (.ref a_is_kept_on_cell)
  a_kind_of : Addr
  d_kind_of : FuncData
  F_kind_of : Fun K "kind_of" "kind_of" s_kind_of a_kind_of d_kind_of
  b_kind_of : Binds K d_kind_of ["instruction"] []
  g_kind_of : mg "kind_of" = some (.ref a_kind_of)
  a_last_read : Addr
  d_last_read : FuncData
  F_last_read : Fun K "last_read" "last_read" s_last_read a_last_read d_last_read
  b_last_read : Binds K d_last_read ["core", "number", "place"] []
  g_last_read : mg "last_read" = some (.ref a_last_read)
  a_used_by : Addr
  d_used_by : FuncData
  F_used_by : Fun K "used_by" "used_by" s_used_by a_used_by d_used_by
  b_used_by : Binds K d_used_by ["instruction"] []
  g_used_by : mg "used_by" = some (.ref a_used_by)
  a_is_kept : Addr
  d_is_kept : FuncData
  F_is_kept : Fun K "is_kept" "is_kept" s_is_kept a_is_kept d_is_kept
  b_is_kept : Binds K d_is_kept ["design", "core", "first", "second"] []
  g_is_kept : mg "is_kept" = some (.ref a_is_kept)
  a_last_writing : Addr
  d_last_writing : FuncData
  F_last_writing : Fun K "last_writing" "last_writing" s_last_writing a_last_writing d_last_writing
  b_last_writing : Binds K d_last_writing ["core", "cell", "place"] []
  g_last_writing : mg "last_writing" = some (.ref a_last_writing)
  a_waits_for_copied : Addr
  d_waits_for_copied : FuncData
  F_waits_for_copied : Fun K "waits_for_copied" "waits_for_copied" s_waits_for_copied a_waits_for_copied d_waits_for_copied
  b_waits_for_copied : Binds K d_waits_for_copied ["design", "core", "first", "second"] []
  g_waits_for_copied : mg "waits_for_copied" = some (.ref a_waits_for_copied)
  a_must_wait : Addr
  d_must_wait : FuncData
  F_must_wait : Fun K "must_wait" "must_wait" s_must_wait a_must_wait d_must_wait
  b_must_wait : Binds K d_must_wait ["design", "core", "first", "second"] []
  g_must_wait : mg "must_wait" = some (.ref a_must_wait)
  a_source_of : Addr
  d_source_of : FuncData
  F_source_of : Fun K "source_of" "source_of" s_source_of a_source_of d_source_of
  b_source_of : Binds K d_source_of ["core", "place"] []
  g_source_of : mg "source_of" = some (.ref a_source_of)
  a_Step_init : Addr
  d_Step_init : FuncData
  F_Step_init : Fun K "__init__" "Step.__init__" s_Step_init a_Step_init d_Step_init
  b_Step_init : Binds K d_Step_init ["self", "number", "core", "place", "start", "waits_for"] []
  a_make_steps : Addr
  d_make_steps : FuncData
  F_make_steps : Fun K "make_steps" "make_steps" s_make_steps a_make_steps d_make_steps
  b_make_steps : Binds K d_make_steps ["program", "waits_for"] []
  g_make_steps : mg "make_steps" = some (.ref a_make_steps)
  a_steps_on : Addr
  d_steps_on : FuncData
  F_steps_on : Fun K "steps_on" "steps_on" s_steps_on a_steps_on d_steps_on
  b_steps_on : Binds K d_steps_on ["design", "program"] []
  g_steps_on : mg "steps_on" = some (.ref a_steps_on)
  a_checked_steps : Addr
  d_checked_steps : FuncData
  F_checked_steps : Fun K "checked_steps" "checked_steps" s_checked_steps a_checked_steps d_checked_steps
  b_checked_steps : Binds K d_checked_steps ["design", "program"] []
  g_checked_steps : mg "checked_steps" = some (.ref a_checked_steps)
  a_first_state : Addr
  d_first_state : FuncData
  F_first_state : Fun K "first_state" "first_state" s_first_state a_first_state d_first_state
  b_first_state : Binds K d_first_state ["steps"] []
  g_first_state : mg "first_state" = some (.ref a_first_state)
  a_number_of : Addr
  d_number_of : FuncData
  F_number_of : Fun K "number_of" "number_of" s_number_of a_number_of d_number_of
  b_number_of : Binds K d_number_of ["steps", "event"] []
  g_number_of : mg "number_of" = some (.ref a_number_of)
  a_word_used : Addr
  d_word_used : FuncData
  F_word_used : Fun K "word_used" "word_used" s_word_used a_word_used d_word_used
  b_word_used : Binds K d_word_used ["step", "words"] []
  g_word_used : mg "word_used" = some (.ref a_word_used)
  a_ends_core : Addr
  d_ends_core : FuncData
  F_ends_core : Fun K "ends_core" "ends_core" s_ends_core a_ends_core d_ends_core
  b_ends_core : Binds K d_ends_core ["step", "words"] []
  g_ends_core : mg "ends_core" = some (.ref a_ends_core)
  a_word_written : Addr
  d_word_written : FuncData
  F_word_written : Fun K "word_written" "word_written" s_word_written a_word_written d_word_written
  b_word_written : Binds K d_word_written ["step", "words"] []
  g_word_written : mg "word_written" = some (.ref a_word_written)
  a_word_taken : Addr
  d_word_taken : FuncData
  F_word_taken : Fun K "word_taken" "word_taken" s_word_taken a_word_taken d_word_taken
  b_word_taken : Binds K d_word_taken ["steps", "state", "step"] []
  g_word_taken : mg "word_taken" = some (.ref a_word_taken)
  a_state_behind : Addr
  d_state_behind : FuncData
  F_state_behind : Fun K "state_behind" "state_behind" s_state_behind a_state_behind d_state_behind
  b_state_behind : Binds K d_state_behind ["steps", "state", "at"] []
  g_state_behind : mg "state_behind" = some (.ref a_state_behind)
  a_can_come : Addr
  d_can_come : FuncData
  F_can_come : Fun K "can_come" "can_come" s_can_come a_can_come d_can_come
  b_can_come : Binds K d_can_come ["step", "words"] []
  g_can_come : mg "can_come" = some (.ref a_can_come)
  a_steps_now : Addr
  d_steps_now : FuncData
  F_steps_now : Fun K "steps_now" "steps_now" s_steps_now a_steps_now d_steps_now
  b_steps_now : Binds K d_steps_now ["steps", "state"] []
  g_steps_now : mg "steps_now" = some (.ref a_steps_now)
  a_state_behind_row : Addr
  d_state_behind_row : FuncData
  F_state_behind_row : Fun K "state_behind_row" "state_behind_row" s_state_behind_row a_state_behind_row d_state_behind_row
  b_state_behind_row : Binds K d_state_behind_row ["steps", "row"] []
  g_state_behind_row : mg "state_behind_row" = some (.ref a_state_behind_row)
  a_events_behind : Addr
  d_events_behind : FuncData
  F_events_behind : Fun K "events_behind" "events_behind" s_events_behind a_events_behind d_events_behind
  b_events_behind : Binds K d_events_behind ["design", "program", "row"] []
  g_events_behind : mg "events_behind" = some (.ref a_events_behind)
  a_is_over : Addr
  d_is_over : FuncData
  F_is_over : Fun K "is_over" "is_over" s_is_over a_is_over d_is_over
  b_is_over : Binds K d_is_over ["state"] []
  g_is_over : mg "is_over" = some (.ref a_is_over)
  a_has_ended : Addr
  d_has_ended : FuncData
  F_has_ended : Fun K "has_ended" "has_ended" s_has_ended a_has_ended d_has_ended
  b_has_ended : Binds K d_has_ended ["design", "program", "row"] []
  g_has_ended : mg "has_ended" = some (.ref a_has_ended)
  a_outcome_of : Addr
  d_outcome_of : FuncData
  F_outcome_of : Fun K "outcome_of" "outcome_of" s_outcome_of a_outcome_of d_outcome_of
  b_outcome_of : Binds K d_outcome_of ["steps", "program", "state"] []
  g_outcome_of : mg "outcome_of" = some (.ref a_outcome_of)
  a_told_by : Addr
  d_told_by : FuncData
  F_told_by : Fun K "told_by" "told_by" s_told_by a_told_by d_told_by
  b_told_by : Binds K d_told_by ["design", "program", "row"] []
  g_told_by : mg "told_by" = some (.ref a_told_by)
  a__law_not_made : Addr
  d__law_not_made : FuncData
  F__law_not_made : Fun K "_law_not_made" "_law_not_made" s__law_not_made a__law_not_made d__law_not_made
  b__law_not_made : Binds K d__law_not_made ["work"] []
  g__law_not_made : mg "_law_not_made" = some (.ref a__law_not_made)
  a_law : Addr
  d_law : FuncData
  F_law : Fun K "law" "law" s_law a_law d_law
  b_law : Binds K d_law ["script"] []
  g_law : mg "law" = some (.ref a_law)
  a_Step : Addr
  g_Step : mg "Step" = some (.ref a_Step)
  i_Step : InsC K "Step" a_Step
  mk_Step : Mk K a_Step a_Step_init
  na_Step_behind : NoAttr K a_Step "behind"
  na_Step_event : NoAttr K a_Step "event"
  na_Step_instruction : NoAttr K a_Step "instruction"
  na_Step_source : NoAttr K a_Step "source"
  na_Step_waits : NoAttr K a_Step "waits"
  n_all : mg "all" = none
  n_bool : mg "bool" = none
  n_enumerate : mg "enumerate" = none
  n_int : mg "int" = none
  n_isinstance : mg "isinstance" = none
  n_len : mg "len" = none
  n_list : mg "list" = none
  n_min : mg "min" = none
  n_range : mg "range" = none
  n_sorted : mg "sorted" = none
  n_str : mg "str" = none
  n_tuple : mg "tuple" = none
  n_zip : mg "zip" = none
  a_PairError : Addr
  g_PairError : mg "PairError" = some (.ref a_PairError)
  a_NotMade : Addr
  x_NotMade : XC K mg "NotMade" a_PairError a_NotMade
  i_made_made : PySem.W.kitOne K (.ref a_NotMade) (.ref a_NotMade) = some true
  a_GREATEST : Addr
  e_GREATEST : Array DictEntry
  z_GREATEST : Nat
  c_GREATEST : mg "GREATEST" = some (.ref a_GREATEST)
  k_GREATEST : KDict K w a_GREATEST e_GREATEST z_GREATEST
  t_GREATEST : ∀ Z : Zx, Z.K = K → KTab Z a_GREATEST t_GREATEST
  a_WORDS : Addr
  c_WORDS : mg "WORDS" = some (.ref a_WORDS) ∧ ∀ (Z : Zx) β H, Z.K = K → Rep Z β H (.ref a_WORDS) c_WORDS
  a_FIRST_CELLS : Addr
  c_FIRST_CELLS : mg "FIRST_CELLS" = some (.ref a_FIRST_CELLS) ∧ ∀ (Z : Zx) β H, Z.K = K → Rep Z β H (.ref a_FIRST_CELLS) c_FIRST_CELLS
  u_MOST_CORES : Value
  c_MOST_CORES : mg "MOST_CORES" = some u_MOST_CORES ∧ RelV (.int (3)) u_MOST_CORES
  u_MOST_IN_CORE : Value
  c_MOST_IN_CORE : mg "MOST_IN_CORE" = some u_MOST_IN_CORE ∧ RelV (.int (5)) u_MOST_IN_CORE
  u_MOST_IN_ALL : Value
  c_MOST_IN_ALL : mg "MOST_IN_ALL" = some u_MOST_IN_ALL ∧ RelV (.int (10)) u_MOST_IN_ALL
  u_LEFT_OUT : Value
  c_LEFT_OUT : mg "LEFT_OUT" = some u_LEFT_OUT ∧ RelV (.int (-1)) u_LEFT_OUT
def wr_R {K : PySem.W.Frag} {w : World} {mg : Str → Option Value} (T : Txt K w mg) : Addr → V → Prop := fun D v => D = T.a_NotMade ∧ v = .bl true
theorem wr_ok {K : PySem.W.Frag} {w : World} {mg : Str → Option Value} (T : Txt K w mg) : ∀ n d, wr_tab.lookup n = some d → ∃ D v, mg n = some (.ref D) ∧ (∀ (Z : Zx) β H, Rep Z β H v d) ∧ wr_R T D v ∧ PySem.W.exmOne K (.ref D) (.ref T.a_PairError) = some true := by
  intro n d h
  simp only [wr_tab, List.lookup_cons, List.lookup_nil] at h
  split at h
  · rename_i e
    cases h
    rw [eq_of_beq e]
    exact ⟨_, _, T.x_NotMade.g, fun _ _ _ => .bl _, ⟨rfl, rfl⟩, T.x_NotMade.up⟩
  · cases h
theorem gives_w {w : World} {K : PySem.W.Frag} {mg : Str → Option Value} {base : Heap} (T : Txt K w mg) {q : Str} (X : Cx) (hK : X.K = K) (hmg : X.mg = mg) (cdv : Value) : GivesTo X N__law_not_made "_law_not_made" (defScope s__law_not_made) T.a__law_not_made cdv (defBody s__law_not_made) "work" q (TTw X.K T.a_PairError (wr_R T) (.bl false)) := by
  subst hK hmg
  exact wrong_gives (n := "e") rfl T.g_PairError rfl (fun _ => rfl) sc__law_not_made.nd rfl (fun _ _ _ => rfl) (fun _ => pe_bl) (fun A s H b D oe pn v hz hd hR => by
    obtain ⟨rfl, rfl⟩ := hR
    exact se_is (call_isE T.x_NotMade.is hz hd) rfl (.inl rfl) (by rfl) T.n_isinstance (by rfl) T.x_NotMade.g T.i_made_made)
theorem ok__law_alike {w : World} {K : PySem.W.Frag} {mg : Str → Option Value} {base : Heap} (T : Txt K w mg) (n : Nat) : FnD P w K mg base (1 + n) T.a__law_alike T.d__law_alike ["found", "due"] (m__law_alike n) := by
  induction n with
  | zero => exact fnD_of T.F__law_alike sc__law_alike fun cdv A outer s H E hr => dss_bad
  | succ n ih => exact fnD_of T.F__law_alike sc__law_alike fun cdv A outer s H E hr => (dss_cons (ds_if (dt_tr (de_callB call_isiS cd_isiT (by rfl) T.n_isinstance (by decide +kernel) (da_cons (de_var 1) (da_cons (de_tup (da_cons (de_type (by rfl) T.n_tuple (by decide +kernel)) (da_cons (de_type (by rfl) T.n_list (by decide +kernel)) da_nil))) da_nil)))) (dss_cons (ds_if (dt_w (dw_or (dt_not (dt_tr (de_callB call_isiS cd_isiT (by rfl) T.n_isinstance (by decide +kernel) (da_cons (de_var 0) (da_cons (de_tup (da_cons (de_type (by rfl) T.n_tuple (by decide +kernel)) (da_cons (de_type (by rfl) T.n_list (by decide +kernel)) da_nil))) da_nil))))) (dw_or1 (dt_cmp (op_neD (hu64 hr)) od_ne (de_callB call_isi cd_isi (by rfl) T.n_isinstance (by decide +kernel) (da_cons (de_var 0) (da_cons (de_type (by rfl) T.n_list (by decide +kernel)) da_nil))) (de_callB call_isi cd_isi (by rfl) T.n_isinstance (by decide +kernel) (da_cons (de_var 1) (da_cons (de_type (by rfl) T.n_list (by decide +kernel)) da_nil))))))) (dss_one (ds_ret de_bl)) dss_nil) (dss_cons (ds_if (dt_cmp (op_neD (hu64 hr)) od_ne (de_callB call_len cd_len (by rfl) T.n_len (by decide +kernel) (da_cons (de_var 0) da_nil)) (de_callB call_len cd_len (by rfl) T.n_len (by decide +kernel) (da_cons (de_var 1) da_nil))) (dss_one (ds_ret de_bl)) dss_nil) (dss_one (ds_ret (de_cmp (op_eqD (hu64 hr)) od_eq (de_comp (own := [("k", 2)]) (p := (.nm 2)) rfl sc__law_alike.nd (di_range1 (by rfl) T.n_range (da_cons (de_callB call_len cd_len (by rfl) T.n_len (by decide +kernel) (da_cons (de_var 1) da_nil)) da_nil)) (blkOk_by (N := N__law_alike) (sc := (defScope s__law_alike)) (by decide +kernel)) (by decide) (fun _ _ _ _ _ => (dg_nm (i := 2) sc__law_alike.nd rfl (by first | exact Or.inl rfl | exact Or.inr rfl))) (fun _ _ _ _ _ => (dts_one (dt_not (dt_tr (de_call ih takesF (hr.mono (Nat.le_refl _)) (by rfl) T.g__law_alike T.F__law_alike.kp T.b__law_alike rfl (da_cons (de_ix ix_seq od_ix (de_var 0) (de_var 2)) (da_cons (de_ix ix_seq od_ix (de_var 1) (de_var 2)) da_nil)) (hfl := (al_cons (al_cons al_nil)))))))) (fun _ _ _ _ _ => (de_var 2))) (de_lst da_nil)))))) dss_nil) (dss_cons (ds_if (dt_w (dw_or (dt_cmp or_is od_is (de_var 1) de_non) (dw_or1 (dt_tr (de_callB call_isi cd_isi (by rfl) T.n_isinstance (by decide +kernel) (da_cons (de_var 1) (da_cons (de_type (by rfl) T.n_str (by decide +kernel)) da_nil))))))) (dss_one (ds_ret (de_and (de_cmp (op_eqD (hu64 hr)) od_eq (de_var 0) (de_var 1)) (de_one (de_cmp (op_eqD (hu64 hr)) od_eq (de_callB call_isi cd_isi (by rfl) T.n_isinstance (by decide +kernel) (da_cons (de_var 0) (da_cons (de_type (by rfl) T.n_str (by decide +kernel)) da_nil))) (de_callB call_isi cd_isi (by rfl) T.n_isinstance (by decide +kernel) (da_cons (de_var 1) (da_cons (de_type (by rfl) T.n_str (by decide +kernel)) da_nil)))))))) dss_nil) (dss_one (ds_ret (de_and (de_callB call_isi cd_isi (by rfl) T.n_isinstance (by decide +kernel) (da_cons (de_var 0) (da_cons (de_type (by rfl) T.n_int (by decide +kernel)) da_nil))) (de_and (de_cmp (op_eqD (hu64 hr)) od_eq (de_callB call_isi cd_isi (by rfl) T.n_isinstance (by decide +kernel) (da_cons (de_var 0) (da_cons (de_type (by rfl) T.n_bool (by decide +kernel)) da_nil))) (de_callB call_isi cd_isi (by rfl) T.n_isinstance (by decide +kernel) (da_cons (de_var 1) (da_cons (de_type (by rfl) T.n_bool (by decide +kernel)) da_nil)))) (de_one (de_cmp (op_eqD (hu64 hr)) od_eq (de_var 0) (de_var 1)))))))))
theorem ok__law_begin {w : World} {K : PySem.W.Frag} {mg : Str → Option Value} {base : Heap} (T : Txt K w mg) : FnD P w K mg base 1 T.a__law_begin T.d__law_begin ["design", "program"] m__law_begin :=
  fnD_of T.F__law_begin sc__law_begin fun cdv A outer s H E hr => (dss_cons (ds_set 2 sc__law_begin.nd rfl (by first | exact Or.inl rfl | exact Or.inr rfl) (de_dispK (dps_cons (de_var 0) (dps_cons (de_var 1) (dps_cons (de_comp (own := [("core", 3)]) (p := (.nm 3)) rfl sc__law_begin.nd (di_seq (de_var 1)) (blkOk_by (N := N__law_begin) (sc := (defScope s__law_begin)) (by decide +kernel)) (by decide) (fun _ _ _ _ _ => (dg_nm (i := 3) sc__law_begin.nd rfl (by first | exact Or.inl rfl | exact Or.inr rfl))) (fun _ _ _ _ _ => dts_nil) (fun _ _ _ _ _ => (de_opN or_mul on_rep (de_lst (da_cons de_bl da_nil)) (de_callB call_len cd_len (by rfl) T.n_len (by decide +kernel) (da_cons (de_var 3) da_nil))))) (dps_cons (de_lstM (da_cons de_int (da_cons de_int (da_cons de_int da_nil)))) dps_nil)))) (by decide) (by decide))) (dss_cons (ds_put2K hr rfl (de_tup (da_cons (de_comp (own := [("core", 3)]) (p := (.nm 3)) rfl sc__law_begin.nd (di_seq (de_var 1)) (blkOk_by (N := N__law_begin) (sc := (defScope s__law_begin)) (by decide +kernel)) (by decide) (fun _ _ _ _ _ => (dg_nm (i := 3) sc__law_begin.nd rfl (by first | exact Or.inl rfl | exact Or.inr rfl))) (fun _ _ _ _ _ => dts_nil) (fun _ _ _ _ _ => de_dnew)) (da_cons (de_opN or_mul on_rep (de_lst (da_cons de_int da_nil)) (de_callB call_len cd_len (by rfl) T.n_len (by decide +kernel) (da_cons (de_var 1) da_nil))) da_nil))) (de_var 2) (de_var 2)) (dss_one (ds_ret (de_var 2)))))
theorem ok__law_taken {w : World} {K : PySem.W.Frag} {mg : Str → Option Value} {base : Heap} (T : Txt K w mg) : FnD P w K mg base 1 T.a__law_taken T.d__law_taken ["row", "many"] m__law_taken :=
  fnD_of T.F__law_taken sc__law_taken fun cdv A outer s H E hr => (dss_cons (ds_if (dt_cmp op_gt od_gt (de_ix ix_seq od_ix (de_var 0) de_int) de_int) (dss_cons (ds_set 2 sc__law_taken.nd rfl (by first | exact Or.inl rfl | exact Or.inr rfl) (de_op op_mod od_mod (de_callTy call_int1 cd_int (by rfl) T.n_int (by decide +kernel) (da_cons (de_ix ix_seq od_ix (de_var 0) de_int) da_nil)) (de_var 1))) (dss_cons (ds_put (de_var 0) de_int (de_op op_fdiv od_fdiv (de_ix ix_seq od_ix (de_var 0) de_int) (de_var 1))) (dss_one (ds_ret (de_var 2))))) dss_nil) (dss_cons (ds_put (de_var 0) de_int (de_op or_add od_add (de_ix ix_seq od_ix (de_var 0) de_int) de_int)) (dss_cons (ds_if (dt_cmp op_gt od_gt (de_ix ix_seq od_ix (de_var 0) de_int) (de_callB call_len cd_len (by rfl) T.n_len (by decide +kernel) (da_cons (de_ix ix_seq od_ix (de_var 0) de_int) da_nil))) (dss_cons (ds_put (de_var 0) de_int (de_op op_mod od_mod (de_callTy call_int1 cd_int (by rfl) T.n_int (by decide +kernel) (da_cons (de_op or_add od_add (de_op or_mul od_mul (de_ix ix_seq od_ix (de_var 0) de_int) de_int) de_int) da_nil)) de_int)) (dss_one (ds_ret (de_op op_mod od_mod (de_callTy call_int1 cd_int (by rfl) T.n_int (by decide +kernel) (da_cons (de_op op_fdiv od_fdiv (de_ix ix_seq od_ix (de_var 0) de_int) de_int) da_nil)) (de_var 1))))) dss_nil) (dss_cons (ds_set 3 sc__law_taken.nd rfl (by first | exact Or.inl rfl | exact Or.inr rfl) (de_ix ix_seq od_ix (de_ix ix_seq od_ix (de_var 0) de_int) (de_op op_sub od_sub (de_ix ix_seq od_ix (de_var 0) de_int) de_int))) (dss_cons (ds_put (de_var 0) de_int (de_op op_mod od_mod (de_callTy call_int1 cd_int (by rfl) T.n_int (by decide +kernel) (da_cons (de_op or_add od_add (de_op or_add od_add (de_op or_mul od_mul (de_ix ix_seq od_ix (de_var 0) de_int) de_int) (de_var 3)) de_int) da_nil)) de_int)) (dss_cons (ds_if (dt_cmp op_ge od_ge (de_var 3) (de_op op_pow od_pow de_int de_int)) (dss_one (ds_put (de_var 0) de_int (de_op op_fdiv od_fdiv (de_var 3) (de_var 1)))) dss_nil) (dss_one (ds_ret (de_op op_mod od_mod (de_callTy call_int1 cd_int (by rfl) T.n_int (by decide +kernel) (da_cons (de_var 3) da_nil)) (de_var 1))))))))))
theorem ok__law_design {w : World} {K : PySem.W.Frag} {mg : Str → Option Value} {base : Heap} (T : Txt K w mg) : FnD P w K mg base 2 T.a__law_design T.d__law_design ["row"] m__law_design :=
  fnD_of T.F__law_design sc__law_design fun cdv A outer s H E hr => (dss_one (ds_ret (de_callTy call_tuple_of cd_tuple (by rfl) T.n_tuple (by decide +kernel) (da_cons (de_comp (own := [("word", 1)]) (p := (.nm 1)) rfl sc__law_design.nd (di_seq (de_lst (da_cons de_str (da_cons de_str (da_cons de_str (da_cons de_str (da_cons de_str (da_cons de_str (da_cons de_str (da_cons de_str da_nil)))))))))) (blkOk_by (N := N__law_design) (sc := (defScope s__law_design)) (by decide +kernel)) (by decide) (fun _ _ _ _ _ => (dg_nm (i := 1) sc__law_design.nd rfl (by first | exact Or.inl rfl | exact Or.inr rfl))) (fun _ _ _ _ _ => (dts_one (dt_cmp (op_eqD (hu64 hr)) od_eq (de_call (ok__law_taken T) takesF (hr.mono (by decide)) (by rfl) T.g__law_taken T.F__law_taken.kp T.b__law_taken rfl (da_cons (de_var 0) (da_cons de_int da_nil)) (hfl := (al_cons (al_cons al_nil)))) de_int))) (fun _ _ _ _ _ => (de_var 1))) da_nil))))
theorem ok__law_last {w : World} {K : PySem.W.Frag} {mg : Str → Option Value} {base : Heap} (T : Txt K w mg) : FnD P w K mg base 1 T.a__law_last T.d__law_last ["core", "place", "kinds", "spot", "name"] m__law_last :=
  fnD_of T.F__law_last sc__law_last fun cdv A outer s H E hr => (dss_one (ds_ret (de_sl (de_comp (own := [("k", 5)]) (p := (.nm 5)) rfl sc__law_last.nd (di_range1 (by rfl) T.n_range (da_cons (de_var 1) da_nil)) (blkOk_by (N := N__law_last) (sc := (defScope s__law_last)) (by decide +kernel)) (by decide) (fun _ _ _ _ _ => (dg_nm (i := 5) sc__law_last.nd rfl (by first | exact Or.inl rfl | exact Or.inr rfl))) (fun _ _ _ _ _ => (dts_one (dt_w (dw_and (dt_cmp (or_in (hu65 hr)) (od_in false) (de_ix ix_seq od_ix (de_ix ix_seq od_ix (de_var 0) (de_var 5)) de_int) (de_var 2)) (dw_and1 (dt_cmp (op_eqD (hu64 hr)) od_eq (de_ix ix_seq od_ix (de_ix ix_seq od_ix (de_var 0) (de_var 5)) (de_var 3)) (de_var 4))))))) (fun _ _ _ _ _ => (de_var 5))) (do_some (de_un un_neg ud_neg de_int)) do_none)))
theorem ok__law_word {w : World} {K : PySem.W.Frag} {mg : Str → Option Value} {base : Heap} (T : Txt K w mg) : FnD P w K mg base 2 T.a__law_word T.d__law_word ["run", "c", "place", "name"] m__law_word :=
  fnD_of T.F__law_word sc__law_word fun cdv A outer s H E hr => (dss_cons (ds_set 4 sc__law_word.nd rfl (by first | exact Or.inl rfl | exact Or.inr rfl) (de_call (ok__law_last T) (takes_of rfl rfl rfl rfl) (hr.mono (by decide)) (by rfl) T.g__law_last T.F__law_last.kp T.b__law_last rfl (da_cons (de_ix ix_seq od_ix (de_ixK hr (de_var 0) de_str) (de_var 1)) (da_cons (de_var 2) (da_cons (de_lst (da_cons de_str da_nil)) (da_cons de_int (da_cons (de_var 3) da_nil))))) (hfl := (al_cons (al_cons (al_cons (al_cons (al_cons al_nil)))))))) (dss_one (ds_ret (de_if (dt_cmp (op_neD (hu64 hr)) od_ne (de_var 4) (de_lst da_nil)) (de_getK hr (de_ix ix_seq od_ix (de_ixK hr (de_var 0) de_str) (de_var 1)) (de_ix ix_seq od_ix (de_var 4) de_int) de_int ⟨rfl, rfl, rfl, rfl⟩) de_int))))
theorem ok__law_written {w : World} {K : PySem.W.Frag} {mg : Str → Option Value} {base : Heap} (T : Txt K w mg) : FnD P w K mg base 3 T.a__law_written T.d__law_written ["run", "c", "place"] m__law_written :=
  fnD_of T.F__law_written sc__law_written fun cdv A outer s H E hr => (dss_cons (ds_set 3 sc__law_written.nd rfl (by first | exact Or.inl rfl | exact Or.inr rfl) (de_ix ix_seq od_ix (de_ix ix_seq od_ix (de_ixK hr (de_var 0) de_str) (de_var 1)) (de_var 2))) (dss_one (ds_ret (de_if (dt_cmp (op_eqD (hu64 hr)) od_eq (de_ix ix_seq od_ix (de_var 3) de_int) de_str) (de_ix ix_seq od_ix (de_var 3) de_int) (de_call (ok__law_word T) (takes_of rfl rfl rfl rfl) (hr.mono (by decide)) (by rfl) T.g__law_word T.F__law_word.kp T.b__law_word rfl (da_cons (de_var 0) (da_cons (de_var 1) (da_cons (de_var 2) (da_cons (de_ix ix_seq od_ix (de_var 3) de_int) da_nil)))) (hfl := (al_cons (al_cons (al_cons (al_cons al_nil))))))))))
theorem ok__law_do {w : World} {K : PySem.W.Frag} {mg : Str → Option Value} {base : Heap} (T : Txt K w mg) : FnD P w K mg base 4 T.a__law_do T.d__law_do ["run", "event"] m__law_do :=
  fnD_of T.F__law_do sc__law_do fun cdv A outer s H E hr => (dss_cons (ds_pat (p := (.tp [(.nm 2), (.nm 3)])) (de_var 1) (dg_tp rfl (dgs_cons (dg_nm (i := 2) sc__law_do.nd rfl (by first | exact Or.inl rfl | exact Or.inr rfl)) (dgs_cons (dg_nm (i := 3) sc__law_do.nd rfl (by first | exact Or.inl rfl | exact Or.inr rfl)) dgs_nil)))) (dss_cons (ds_set 4 sc__law_do.nd rfl (by first | exact Or.inl rfl | exact Or.inr rfl) (de_ix ix_seq od_ix (de_ix ix_seq od_ix (de_ixK hr (de_var 0) de_str) (de_var 2)) (de_var 3))) (dss_cons (ds_put (de_ix ix_seq od_ix (de_ixK hr (de_var 0) de_str) (de_var 2)) (de_var 3) de_bl) (dss_cons (ds_if (dt_cmp (op_eqD (hu64 hr)) od_eq (de_ix ix_seq od_ix (de_var 4) de_int) de_str) (dss_cons (ds_setLc 5 (own := [("k", 6)]) (p := (.nm 6)) rfl sc__law_do.nd rfl rfl (sw_true rfl rfl rfl (by decide +kernel)) (di_seq (de_call (ok__law_last T) (takes_of rfl rfl rfl rfl) (hr.mono (by decide)) (by rfl) T.g__law_last T.F__law_last.kp T.b__law_last rfl (da_cons (de_ix ix_seq od_ix (de_ixK hr (de_var 0) de_str) (de_var 2)) (da_cons (de_var 3) (da_cons (de_lst (da_cons de_str (da_cons de_str da_nil))) (da_cons de_int (da_cons (de_ix ix_seq od_ix (de_var 4) de_int) da_nil))))) (hfl := (al_cons (al_cons (al_cons (al_cons (al_cons al_nil)))))))) (blkOk_by (N := N__law_do) (sc := (defScope s__law_do)) (by decide +kernel)) (by decide) (fun _ _ _ _ _ => (dg_nm (i := 6) sc__law_do.nd rfl (by first | exact Or.inl rfl | exact Or.inr rfl))) (fun _ _ _ _ _ => (dts_one (dt_not (dt_tr (de_ix ix_seq od_ix (de_ix ix_seq od_ix (de_ixK hr (de_var 0) de_str) (de_var 2)) (de_var 6)))))) (fun _ _ _ _ _ => (de_var 6))) (dss_one (ds_putK hr (de_ix ix_seq od_ix (de_ixK hr (de_var 0) de_str) (de_var 2)) (de_var 3) (de_if (dt_cmp (op_neD (hu64 hr)) od_ne (de_var 5) (de_lst da_nil)) (de_call (ok__law_written T) (takes_of rfl rfl rfl rfl) (hr.mono (by decide)) (by rfl) T.g__law_written T.F__law_written.kp T.b__law_written rfl (da_cons (de_var 0) (da_cons (de_var 2) (da_cons (de_ix ix_seq od_ix (de_var 5) de_int) da_nil))) (hfl := (al_cons (al_cons (al_cons al_nil))))) (de_ix ix_seq od_ix (de_ixK hr (de_var 0) de_str) (de_ix ix_seq od_ix (de_var 4) de_int)))))) dss_nil) (dss_cons (ds_if (dt_cmp (or_in (hu65 hr)) (od_in false) (de_ix ix_seq od_ix (de_var 4) de_int) (de_lst (da_cons de_str (da_cons de_str da_nil)))) (dss_one (ds_put (de_ixK hr (de_var 0) de_str) (de_ix ix_seq od_ix (de_var 4) de_int) (de_call (ok__law_written T) (takes_of rfl rfl rfl rfl) (hr.mono (by decide)) (by rfl) T.g__law_written T.F__law_written.kp T.b__law_written rfl (da_cons (de_var 0) (da_cons (de_var 2) (da_cons (de_var 3) da_nil))) (hfl := (al_cons (al_cons (al_cons al_nil))))))) dss_nil) (dss_one (ds_if (dt_w (dw_and (dt_cmp (op_eqD (hu64 hr)) od_eq (de_ix ix_seq od_ix (de_var 4) de_int) de_str) (dw_and1 (dt_cmp (op_neD (hu64 hr)) od_ne (de_call (ok__law_word T) (takes_of rfl rfl rfl rfl) (hr.mono (by decide)) (by rfl) T.g__law_word T.F__law_word.kp T.b__law_word rfl (da_cons (de_var 0) (da_cons (de_var 2) (da_cons (de_var 3) (da_cons (de_ix ix_seq od_ix (de_var 4) de_int) da_nil)))) (hfl := (al_cons (al_cons (al_cons (al_cons al_nil)))))) (de_ix ix_seq od_ix (de_var 4) de_int))))) (dss_one (ds_put (de_ixK hr (de_var 0) de_str) (de_var 2) (de_var 3))) dss_nil)))))))
theorem ok__law_cell {w : World} {K : PySem.W.Frag} {mg : Str → Option Value} {base : Heap} (T : Txt K w mg) : FnD P w K mg base 1 T.a__law_cell T.d__law_cell ["one"] m__law_cell :=
  fnD_of T.F__law_cell sc__law_cell fun cdv A outer s H E hr => (dss_one (ds_ret (de_if (dt_cmp (op_eqD (hu64 hr)) od_eq (de_ix ix_seq od_ix (de_var 0) de_int) de_str) (de_ix ix_seq od_ix (de_var 0) de_int) (de_if (dt_cmp (or_in (hu65 hr)) (od_in false) (de_ix ix_seq od_ix (de_var 0) de_int) (de_lst (da_cons de_str (da_cons de_str da_nil)))) (de_ix ix_seq od_ix (de_var 0) de_int) de_non))))
theorem ok__law_letter {w : World} {K : PySem.W.Frag} {mg : Str → Option Value} {base : Heap} (T : Txt K w mg) : FnD P w K mg base 1 T.a__law_letter T.d__law_letter ["one"] m__law_letter :=
  fnD_of T.F__law_letter sc__law_letter fun cdv A outer s H E hr => (dss_one (ds_ret (de_tabIx (tab := [("read", "r"), ("write", "w"), ("copy", "w"), ("guard", "g"), ("fence", "f")]) hr (pps_str (pps_str (pps_str (pps_str (pps_str pps_nil))))) rfl (by decide) (de_ix ix_seq od_ix (de_var 0) de_int))))
theorem ok__law_must {w : World} {K : PySem.W.Frag} {mg : Str → Option Value} {base : Heap} (T : Txt K w mg) : FnD P w K mg base 2 T.a__law_must T.d__law_must ["design", "core", "i", "j"] m__law_must :=
  fnD_of T.F__law_must sc__law_must fun cdv A outer s H E hr => (dss_cons (ds_par (i := 4) (j := 5) rfl sc__law_must.nd rfl rfl (by decide) rfl rfl (da_cons (de_ix ix_seq od_ix (de_var 1) (de_var 2)) (da_cons (de_ix ix_seq od_ix (de_var 1) (de_var 3)) da_nil)) rfl) (dss_cons (ds_set 6 sc__law_must.nd rfl (by first | exact Or.inl rfl | exact Or.inr rfl) (de_op or_add od_add (de_call (ok__law_letter T) (takes_of rfl rfl rfl rfl) (hr.mono (by decide)) (by rfl) T.g__law_letter T.F__law_letter.kp T.b__law_letter rfl (da_cons (de_var 4) da_nil) (hfl := (al_cons al_nil))) (de_call (ok__law_letter T) (takes_of rfl rfl rfl rfl) (hr.mono (by decide)) (by rfl) T.g__law_letter T.F__law_letter.kp T.b__law_letter rfl (da_cons (de_var 5) da_nil) (hfl := (al_cons al_nil))))) (dss_cons (ds_if (dt_w (dw_or (dt_cmp (or_in (hu65 hr)) (od_in false) de_str (de_var 6)) (dw_or1 (dt_cmp (op_eqD (hu64 hr)) od_eq (de_var 6) de_str)))) (dss_one (ds_ret de_bl)) dss_nil) (dss_cons (ds_if (dt_w (dw_and (dt_cmp (or_in (hu65 hr)) (od_in false) (de_ix ix_seq od_ix (de_var 5) de_int) (de_lst (da_cons de_str (da_cons de_str da_nil)))) (dw_and1 (dt_cmp (op_eqD (hu64 hr)) od_eq (de_lst (da_cons (de_var 2) da_nil)) (de_call (ok__law_last T) (takes_of rfl rfl rfl rfl) (hr.mono (by decide)) (by rfl) T.g__law_last T.F__law_last.kp T.b__law_last rfl (da_cons (de_var 1) (da_cons (de_var 3) (da_cons (de_lst (da_cons de_str da_nil)) (da_cons de_int (da_cons (de_if (dt_cmp (op_eqD (hu64 hr)) od_eq (de_ix ix_seq od_ix (de_var 5) de_int) de_str) (de_ix ix_seq od_ix (de_var 5) de_int) (de_ix ix_seq od_ix (de_var 5) de_int)) da_nil))))) (hfl := (al_cons (al_cons (al_cons (al_cons (al_cons al_nil))))))))))) (dss_one (ds_ret de_bl)) dss_nil) (dss_cons (ds_if (dt_w (dw_and (dt_cmp (op_eqD (hu64 hr)) od_eq (de_ix ix_seq od_ix (de_var 5) de_int) de_str) (dw_and1 (dt_cmp (or_in (hu65 hr)) (od_in false) de_str (de_var 0))))) (dss_one (ds_for (p := (.nm 7)) (passes_of rfl) rfl (di_seq (de_call (ok__law_last T) (takes_of rfl rfl rfl rfl) (hr.mono (by decide)) (by rfl) T.g__law_last T.F__law_last.kp T.b__law_last rfl (da_cons (de_var 1) (da_cons (de_var 3) (da_cons (de_lst (da_cons de_str (da_cons de_str da_nil))) (da_cons de_int (da_cons (de_ix ix_seq od_ix (de_var 5) de_int) da_nil))))) (hfl := (al_cons (al_cons (al_cons (al_cons (al_cons al_nil)))))))) (dg_nm (i := 7) sc__law_must.nd rfl (by first | exact Or.inl rfl | exact Or.inr rfl)) (dss_one (ds_if (dt_w (dw_and (dt_cmp (op_eqD (hu64 hr)) od_eq (de_ix ix_seq od_ix (de_ix ix_seq od_ix (de_var 1) (de_var 7)) de_int) de_str) (dw_and1 (dt_cmp (op_eqD (hu64 hr)) od_eq (de_lst (da_cons (de_var 2) da_nil)) (de_call (ok__law_last T) (takes_of rfl rfl rfl rfl) (hr.mono (by decide)) (by rfl) T.g__law_last T.F__law_last.kp T.b__law_last rfl (da_cons (de_var 1) (da_cons (de_var 7) (da_cons (de_lst (da_cons de_str da_nil)) (da_cons de_int (da_cons (de_ix ix_seq od_ix (de_ix ix_seq od_ix (de_var 1) (de_var 7)) de_int) da_nil))))) (hfl := (al_cons (al_cons (al_cons (al_cons (al_cons al_nil))))))))))) (dss_one (ds_ret de_bl)) dss_nil)))) dss_nil) (dss_cons (ds_if (dt_cmp (op_eqD (hu64 hr)) od_eq (de_ix ix_seq od_ix (de_var 6) de_int) de_str) (dss_one (ds_ret de_bl)) dss_nil) (dss_cons (ds_if (dt_w (dw_or (dt_cmp (op_eqD (hu64 hr)) od_eq (de_ix ix_seq od_ix (de_var 6) de_int) de_str) (dw_or1 (dt_cmp (op_neD (hu64 hr)) od_ne (de_call (ok__law_cell T) (takes_of rfl rfl rfl rfl) (hr.mono (by decide)) (by rfl) T.g__law_cell T.F__law_cell.kp T.b__law_cell rfl (da_cons (de_var 4) da_nil) (hfl := (al_cons al_nil))) (de_call (ok__law_cell T) (takes_of rfl rfl rfl rfl) (hr.mono (by decide)) (by rfl) T.g__law_cell T.F__law_cell.kp T.b__law_cell rfl (da_cons (de_var 5) da_nil) (hfl := (al_cons al_nil))))))) (dss_one (ds_ret (de_cmp (or_in (hu65 hr)) (od_in false) (de_var 6) (de_var 0)))) dss_nil) (dss_cons (ds_if (dt_cmp (op_eqD (hu64 hr)) od_eq (de_var 6) de_str) (dss_one (ds_ret (de_cmp (or_in (hu65 hr)) (od_in false) de_str (de_var 0)))) dss_nil) (dss_one (ds_ret (de_or (de_cmp (op_neD (hu64 hr)) od_ne (de_var 6) de_str) (de_one (de_cmp (or_notin (hu65 hr)) (od_in true) de_str (de_var 0))))))))))))))
theorem ok__law_can {w : World} {K : PySem.W.Frag} {mg : Str → Option Value} {base : Heap} (T : Txt K w mg) : FnD P w K mg base 3 T.a__law_can T.d__law_can ["run", "c", "place"] m__law_can :=
  fnD_of T.F__law_can sc__law_can fun cdv A outer s H E hr => (dss_cons (ds_pat (p := (.tp [(.nm 3), (.nm 4)])) (de_tup (da_cons (de_ix ix_seq od_ix (de_ixK hr (de_var 0) de_str) (de_var 1)) (da_cons (de_ix ix_seq od_ix (de_ixK hr (de_var 0) de_str) (de_var 1)) da_nil))) (dg_tp rfl (dgs_cons (dg_nm (i := 3) sc__law_can.nd rfl (by first | exact Or.inl rfl | exact Or.inr rfl)) (dgs_cons (dg_nm (i := 4) sc__law_can.nd rfl (by first | exact Or.inl rfl | exact Or.inr rfl)) dgs_nil)))) (dss_cons (ds_if (dt_w (dw_or (dt_tr (de_ix ix_seq od_ix (de_var 4) (de_var 2))) (dw_or1 (dt_cmp op_gt od_gt (de_var 2) (de_ix ix_seq od_ix (de_ixK hr (de_var 0) de_str) (de_var 1)))))) (dss_one (ds_ret de_bl)) dss_nil) (dss_cons (ds_if (dt_cmp (op_neD (hu64 hr)) od_ne (de_comp (own := [("i", 6)]) (p := (.nm 6)) rfl sc__law_can.nd (di_range1 (by rfl) T.n_range (da_cons (de_var 2) da_nil)) (blkOk_by (N := N__law_can) (sc := (defScope s__law_can)) (by decide +kernel)) (by decide) (fun _ _ _ _ _ => (dg_nm (i := 6) sc__law_can.nd rfl (by first | exact Or.inl rfl | exact Or.inr rfl))) (fun _ _ _ _ _ => (dts_one (dt_w (dw_and (dt_not (dt_tr (de_ix ix_seq od_ix (de_var 4) (de_var 6)))) (dw_and1 (dt_tr (de_call (ok__law_must T) takesF (hr.mono (by decide)) (by rfl) T.g__law_must T.F__law_must.kp T.b__law_must rfl (da_cons (de_ixK hr (de_var 0) de_str) (da_cons (de_var 3) (da_cons (de_var 6) (da_cons (de_var 2) da_nil)))) (hfl := (al_cons (al_cons (al_cons (al_cons al_nil)))))))))))) (fun _ _ _ _ _ => (de_var 6))) (de_lst da_nil)) (dss_one (ds_ret de_bl)) dss_nil) (dss_cons (ds_set 5 sc__law_can.nd rfl (by first | exact Or.inl rfl | exact Or.inr rfl) (de_and (de_cmp (op_eqD (hu64 hr)) od_eq (de_ix ix_seq od_ix (de_ix ix_seq od_ix (de_var 3) (de_var 2)) de_int) de_str) (de_one (de_cmp (op_neD (hu64 hr)) od_ne (de_call (ok__law_word T) (takes_of rfl rfl rfl rfl) (hr.mono (by decide)) (by rfl) T.g__law_word T.F__law_word.kp T.b__law_word rfl (da_cons (de_var 0) (da_cons (de_var 1) (da_cons (de_var 2) (da_cons (de_ix ix_seq od_ix (de_ix ix_seq od_ix (de_var 3) (de_var 2)) de_int) da_nil)))) (hfl := (al_cons (al_cons (al_cons (al_cons al_nil)))))) (de_ix ix_seq od_ix (de_ix ix_seq od_ix (de_var 3) (de_var 2)) de_int))))) (dss_one (ds_ret (de_or (de_not (de_var 5)) (de_one (de_cmp (or_notin (hu65 hr)) (od_in true) de_bl (de_sl (de_var 4) (do_some (de_op or_add od_add (de_var 2) de_int)) do_none))))))))))
theorem ok__law_events {w : World} {K : PySem.W.Frag} {mg : Str → Option Value} {base : Heap} (T : Txt K w mg) : FnD P w K mg base 4 T.a__law_events T.d__law_events ["run"] m__law_events :=
  fnD_of T.F__law_events sc__law_events fun cdv A outer s H E hr => (dss_cons (ds_set 1 sc__law_events.nd rfl (by first | exact Or.inl rfl | exact Or.inr rfl) (de_lst da_nil)) (dss_cons (ds_for (p := (.nm 2)) (passes_of rfl) rfl (di_range1 (by rfl) T.n_range (da_cons (de_callB call_len cd_len (by rfl) T.n_len (by decide +kernel) (da_cons (de_ixK hr (de_var 0) de_str) da_nil)) da_nil)) (dg_nm (i := 2) sc__law_events.nd rfl (by first | exact Or.inl rfl | exact Or.inr rfl)) (dss_one (ds_set 1 sc__law_events.nd rfl (by first | exact Or.inl rfl | exact Or.inr rfl) (de_op or_add od_add (de_var 1) (de_comp (own := [("place", 3)]) (p := (.nm 3)) rfl sc__law_events.nd (di_range1 (by rfl) T.n_range (da_cons (de_callB call_len cd_len (by rfl) T.n_len (by decide +kernel) (da_cons (de_ix ix_seq od_ix (de_ixK hr (de_var 0) de_str) (de_var 2)) da_nil)) da_nil)) (blkOk_by (N := N__law_events) (sc := (defScope s__law_events)) (by decide +kernel)) (by decide) (fun _ _ _ _ _ => (dg_nm (i := 3) sc__law_events.nd rfl (by first | exact Or.inl rfl | exact Or.inr rfl))) (fun _ _ _ _ _ => (dts_one (dt_tr (de_call (ok__law_can T) takesF (hr.mono (by decide)) (by rfl) T.g__law_can T.F__law_can.kp T.b__law_can rfl (da_cons (de_var 0) (da_cons (de_var 2) (da_cons (de_var 3) da_nil))) (hfl := (al_cons (al_cons (al_cons al_nil)))))))) (fun _ _ _ _ _ => (de_tup (da_cons (de_var 2) (da_cons (de_var 3) da_nil))))))))) (dss_one (ds_ret (de_var 1)))))
theorem ok__law_outcome {w : World} {K : PySem.W.Frag} {mg : Str → Option Value} {base : Heap} (T : Txt K w mg) : FnD P w K mg base 1 T.a__law_outcome T.d__law_outcome ["run"] m__law_outcome :=
  fnD_of T.F__law_outcome sc__law_outcome fun cdv A outer s H E hr => (dss_cons (ds_set 1 sc__law_outcome.nd rfl (by first | exact Or.inl rfl | exact Or.inr rfl) (de_lstM da_nil)) (dss_cons (ds_for (p := (.nm 2)) (passes_of rfl) rfl (di_range1 (by rfl) T.n_range (da_cons (de_callB call_len cd_len (by rfl) T.n_len (by decide +kernel) (da_cons (de_ixK hr (de_var 0) de_str) da_nil)) da_nil)) (dg_nm (i := 2) sc__law_outcome.nd rfl (by first | exact Or.inl rfl | exact Or.inr rfl)) (dss_cons (ds_set 3 sc__law_outcome.nd rfl (by first | exact Or.inl rfl | exact Or.inr rfl) (de_lstM (da_cons de_int (da_cons de_int da_nil)))) (dss_cons (ds_for (p := (.nm 4)) (passes_of rfl) rfl (di_seq (de_callB cr_sortedI cd_sortI (by rfl) T.n_sorted (by decide +kernel) (da_cons (de_callTy (call_list_dK rfl) cd_listK (by rfl) T.n_list (by decide +kernel) (da_cons (de_ix ix_seq od_ix (de_ixK hr (de_var 0) de_str) (de_var 2)) da_nil)) da_nil))) (dg_nm (i := 4) sc__law_outcome.nd rfl (by first | exact Or.inl rfl | exact Or.inr rfl)) (dss_one (ds_put (de_var 3) (de_ix ix_seq od_ix (de_ix ix_seq od_ix (de_ix ix_seq od_ix (de_ixK hr (de_var 0) de_str) (de_var 2)) (de_var 4)) de_int) (de_ixK hr (de_ix ix_seq od_ix (de_ixK hr (de_var 0) de_str) (de_var 2)) (de_var 4))))) (dss_one (ds_expr (de_append (de_var 1) (de_callTy call_tuple_of cd_tuple (by rfl) T.n_tuple (by decide +kernel) (da_cons (de_var 3) da_nil)))))))) (dss_one (ds_ret (de_tup (da_cons (de_callTy call_tuple_of cd_tuple (by rfl) T.n_tuple (by decide +kernel) (da_cons (de_var 1) da_nil)) (da_cons (de_callTy call_tuple_of cd_tuple (by rfl) T.n_tuple (by decide +kernel) (da_cons (de_ixK hr (de_var 0) de_str) da_nil)) da_nil)))))))
theorem ok__law_over {w : World} {K : PySem.W.Frag} {mg : Str → Option Value} {base : Heap} (T : Txt K w mg) : FnD P w K mg base 1 T.a__law_over T.d__law_over ["run"] m__law_over :=
  fnD_of T.F__law_over sc__law_over fun cdv A outer s H E hr => (dss_one (ds_ret (de_cmp (op_eqD (hu64 hr)) od_eq (de_comp (own := [("c", 1)]) (p := (.nm 1)) rfl sc__law_over.nd (di_range1 (by rfl) T.n_range (da_cons (de_callB call_len cd_len (by rfl) T.n_len (by decide +kernel) (da_cons (de_ixK hr (de_var 0) de_str) da_nil)) da_nil)) (blkOk_by (N := N__law_over) (sc := (defScope s__law_over)) (by decide +kernel)) (by decide) (fun _ _ _ _ _ => (dg_nm (i := 1) sc__law_over.nd rfl (by first | exact Or.inl rfl | exact Or.inr rfl))) (fun _ _ _ _ _ => (dts_one (dt_cmp (or_in (hu65 hr)) (od_in false) de_bl (de_sl (de_ix ix_seq od_ix (de_ixK hr (de_var 0) de_str) (de_var 1)) do_none (do_some (de_op or_add od_add (de_ix ix_seq od_ix (de_ixK hr (de_var 0) de_str) (de_var 1)) de_int)))))) (fun _ _ _ _ _ => (de_var 1))) (de_lst da_nil))))
theorem ok__law_pick {w : World} {K : PySem.W.Frag} {mg : Str → Option Value} {base : Heap} (T : Txt K w mg) : FnD P w K mg base 2 T.a__law_pick T.d__law_pick ["row", "kinds"] m__law_pick :=
  fnD_of T.F__law_pick sc__law_pick fun cdv A outer s H E hr => (dss_one (ds_ret (de_ix ix_seq od_ix (de_var 1) (de_call (ok__law_taken T) (takes_of rfl rfl rfl rfl) (hr.mono (by decide)) (by rfl) T.g__law_taken T.F__law_taken.kp T.b__law_taken rfl (da_cons (de_var 0) (da_cons (de_callB call_len cd_len (by rfl) T.n_len (by decide +kernel) (da_cons (de_var 1) da_nil)) da_nil)) (hfl := (al_cons (al_cons al_nil)))))))
theorem ok__law_instruction {w : World} {K : PySem.W.Frag} {mg : Str → Option Value} {base : Heap} (T : Txt K w mg) : FnD P w K mg base 3 T.a__law_instruction T.d__law_instruction ["row"] m__law_instruction :=
  fnD_of T.F__law_instruction sc__law_instruction fun cdv A outer s H E hr => (dss_cons (ds_set 1 sc__law_instruction.nd rfl (by first | exact Or.inl rfl | exact Or.inr rfl) (de_call (ok__law_pick T) (takes_of rfl rfl rfl rfl) (hr.mono (by decide)) (by rfl) T.g__law_pick T.F__law_pick.kp T.b__law_pick rfl (da_cons (de_var 0) (da_cons (de_lst (da_cons de_str (da_cons de_str (da_cons de_str (da_cons de_str (da_cons de_str (da_cons de_str (da_cons de_str (da_cons de_str (da_cons de_str da_nil)))))))))) da_nil)) (hfl := (al_cons (al_cons al_nil))))) (dss_cons (ds_if (dt_cmp (op_eqD (hu64 hr)) od_eq (de_var 1) de_str) (dss_one (ds_ret (de_tup (da_cons de_str da_nil)))) dss_nil) (dss_cons (ds_if (dt_cmp (op_eqD (hu64 hr)) od_eq (de_var 1) de_str) (dss_one (ds_ret (de_tup (da_cons de_str (da_cons (de_call (ok__law_taken T) (takes_of rfl rfl rfl rfl) (hr.mono (by decide)) (by rfl) T.g__law_taken T.F__law_taken.kp T.b__law_taken rfl (da_cons (de_var 0) (da_cons de_int da_nil)) (hfl := (al_cons (al_cons al_nil)))) (da_cons (de_op or_add od_add de_int (de_call (ok__law_taken T) (takes_of rfl rfl rfl rfl) (hr.mono (by decide)) (by rfl) T.g__law_taken T.F__law_taken.kp T.b__law_taken rfl (da_cons (de_var 0) (da_cons de_int da_nil)) (hfl := (al_cons (al_cons al_nil))))) da_nil)))))) dss_nil) (dss_cons (ds_if (dt_cmp (op_eqD (hu64 hr)) od_eq (de_var 1) de_str) (dss_one (ds_ret (de_tup (da_cons de_str (da_cons (de_call (ok__law_taken T) (takes_of rfl rfl rfl rfl) (hr.mono (by decide)) (by rfl) T.g__law_taken T.F__law_taken.kp T.b__law_taken rfl (da_cons (de_var 0) (da_cons de_int da_nil)) (hfl := (al_cons (al_cons al_nil)))) (da_cons (de_call (ok__law_taken T) (takes_of rfl rfl rfl rfl) (hr.mono (by decide)) (by rfl) T.g__law_taken T.F__law_taken.kp T.b__law_taken rfl (da_cons (de_var 0) (da_cons de_int da_nil)) (hfl := (al_cons (al_cons al_nil)))) da_nil)))))) dss_nil) (dss_one (ds_ret (de_tup (da_cons (de_var 1) (da_cons (de_call (ok__law_taken T) (takes_of rfl rfl rfl rfl) (hr.mono (by decide)) (by rfl) T.g__law_taken T.F__law_taken.kp T.b__law_taken rfl (da_cons (de_var 0) (da_cons de_int da_nil)) (hfl := (al_cons (al_cons al_nil)))) (da_cons (de_call (ok__law_taken T) (takes_of rfl rfl rfl rfl) (hr.mono (by decide)) (by rfl) T.g__law_taken T.F__law_taken.kp T.b__law_taken rfl (da_cons (de_var 0) (da_cons de_int da_nil)) (hfl := (al_cons (al_cons al_nil)))) da_nil))))))))))
theorem ok__law_program {w : World} {K : PySem.W.Frag} {mg : Str → Option Value} {base : Heap} (T : Txt K w mg) : FnD P w K mg base 4 T.a__law_program T.d__law_program ["row", "most"] m__law_program :=
  fnD_of T.F__law_program sc__law_program fun cdv A outer s H E hr => (dss_cons (ds_par (i := 2) (j := 3) rfl sc__law_program.nd rfl rfl (by decide) rfl rfl (da_cons (de_var 1) (da_cons (de_tup da_nil) da_nil)) rfl) (dss_cons (ds_for (p := (.nm 4)) (passes_of rfl) rfl (di_range1 (by rfl) T.n_range (da_cons (de_op or_add od_add de_int (de_call (ok__law_pick T) (takes_of rfl rfl rfl rfl) (hr.mono (by decide)) (by rfl) T.g__law_pick T.F__law_pick.kp T.b__law_pick rfl (da_cons (de_var 0) (da_cons (de_lst (da_cons de_int (da_cons de_int (da_cons de_int (da_cons de_int (da_cons de_int da_nil)))))) da_nil)) (hfl := (al_cons (al_cons al_nil))))) da_nil)) (dg_nm (i := 4) sc__law_program.nd rfl (by first | exact Or.inl rfl | exact Or.inr rfl)) (dss_cons (ds_set 5 sc__law_program.nd rfl (by first | exact Or.inl rfl | exact Or.inr rfl) (de_callB (call_min2 rfl) cd_min2 (by rfl) T.n_min (by decide +kernel) (da_cons (de_var 2) (da_cons (de_call (ok__law_taken T) (takes_of rfl rfl rfl rfl) (hr.mono (by decide)) (by rfl) T.g__law_taken T.F__law_taken.kp T.b__law_taken rfl (da_cons (de_var 0) (da_cons de_int da_nil)) (hfl := (al_cons (al_cons al_nil)))) da_nil)))) (dss_cons (ds_set 3 sc__law_program.nd rfl (by first | exact Or.inl rfl | exact Or.inr rfl) (de_op or_add od_add (de_var 3) (de_tup (da_cons (de_callTy call_tuple_of cd_tuple (by rfl) T.n_tuple (by decide +kernel) (da_cons (de_comp (own := [("step", 6)]) (p := (.nm 6)) rfl sc__law_program.nd (di_range1 (by rfl) T.n_range (da_cons (de_var 5) da_nil)) (blkOk_by (N := N__law_program) (sc := (defScope s__law_program)) (by decide +kernel)) (by decide) (fun _ _ _ _ _ => (dg_nm (i := 6) sc__law_program.nd rfl (by first | exact Or.inl rfl | exact Or.inr rfl))) (fun _ _ _ _ _ => dts_nil) (fun _ _ _ _ _ => (de_call (ok__law_instruction T) takesF (hr.mono (by decide)) (by rfl) T.g__law_instruction T.F__law_instruction.kp T.b__law_instruction rfl (da_cons (de_var 0) da_nil) (hfl := (al_cons al_nil))))) da_nil)) da_nil)))) (dss_one (ds_set 2 sc__law_program.nd rfl (by first | exact Or.inl rfl | exact Or.inr rfl) (de_op op_sub od_sub (de_var 2) (de_var 5))))))) (dss_one (ds_ret (de_var 3)))))
theorem ok_is_design {w : World} {K : PySem.W.Frag} {mg : Str → Option Value} {base : Heap} (T : Txt K w mg) : FnD P w K mg base 1 T.a_is_design T.d_is_design ["value"] m_is_design :=
  fnD_of T.F_is_design sc_is_design fun cdv A outer s H E hr => (dss_one (ds_ret (de_and (de_callB call_isi cd_isi (by rfl) T.n_isinstance (by decide +kernel) (da_cons (de_var 0) (da_cons (de_type (by rfl) T.n_tuple (by decide +kernel)) da_nil))) (de_one (de_cmp (op_eqD (hu64 hr)) od_eq (de_var 0) (de_callTy call_tuple_of cd_tuple (by rfl) T.n_tuple (by decide +kernel) (da_cons (de_comp (own := [("word", 1)]) (p := (.nm 1)) rfl sc_is_design.nd (di_seq (de_glob (v := .ref T.a_WORDS) (by rfl) T.c_WORDS.1 rfl (fun β H => T.c_WORDS.2 _ β H rfl))) (blkOk_by (N := N_is_design) (sc := (defScope s_is_design)) (by decide +kernel)) (by decide) (fun _ _ _ _ _ => (dg_nm (i := 1) sc_is_design.nd rfl (by first | exact Or.inl rfl | exact Or.inr rfl))) (fun _ _ _ _ _ => (dts_one (dt_cmp (or_in (hu65 hr)) (od_in false) (de_var 1) (de_var 0)))) (fun _ _ _ _ _ => (de_var 1))) da_nil)))))))
theorem ok_check_design {w : World} {K : PySem.W.Frag} {mg : Str → Option Value} {base : Heap} (T : Txt K w mg) : FnD P w K mg base 2 T.a_check_design T.d_check_design ["value"] m_check_design :=
  fnD_of T.F_check_design sc_check_design fun cdv A outer s H E hr => (dss_one (ds_if (dt_not (dt_tr (de_call (ok_is_design T) (takes_of rfl rfl rfl rfl) (hr.mono (by decide)) (by rfl) T.g_is_design T.F_is_design.kp T.b_is_design rfl (da_cons (de_var 0) da_nil) (hfl := (al_cons al_nil))))) dss_bad dss_nil))
theorem ok_is_number {w : World} {K : PySem.W.Frag} {mg : Str → Option Value} {base : Heap} (T : Txt K w mg) : FnD P w K mg base 1 T.a_is_number T.d_is_number ["value", "greatest"] m_is_number :=
  fnD_of T.F_is_number sc_is_number fun cdv A outer s H E hr => (dss_one (ds_ret (de_and (de_callB call_isi cd_isi (by rfl) T.n_isinstance (by decide +kernel) (da_cons (de_var 0) (da_cons (de_type (by rfl) T.n_int (by decide +kernel)) da_nil))) (de_and (de_not (de_callB call_isi cd_isi (by rfl) T.n_isinstance (by decide +kernel) (da_cons (de_var 0) (da_cons (de_type (by rfl) T.n_bool (by decide +kernel)) da_nil)))) (de_one (de_chain op_le op_le od_le od_le de_int (de_var 0) (de_var 1)))))))
theorem ok_is_instruction {w : World} {K : PySem.W.Frag} {mg : Str → Option Value} {base : Heap} (T : Txt K w mg) : FnD P w K mg base 2 T.a_is_instruction T.d_is_instruction ["value"] m_is_instruction :=
  fnD_of T.F_is_instruction sc_is_instruction fun cdv A outer s H E hr => (dss_cons (ds_if (dt_w (dw_or (dt_not (dt_tr (de_callB call_isi cd_isi (by rfl) T.n_isinstance (by decide +kernel) (da_cons (de_var 0) (da_cons (de_type (by rfl) T.n_tuple (by decide +kernel)) da_nil))))) (dw_or (dt_cmp (op_eqD (hu64 hr)) od_eq (de_callB call_len cd_len (by rfl) T.n_len (by decide +kernel) (da_cons (de_var 0) da_nil)) de_int) (dw_or1 (dt_not (dt_tr (de_callB call_isi cd_isi (by rfl) T.n_isinstance (by decide +kernel) (da_cons (de_ix ix_seq od_ix (de_var 0) de_int) (da_cons (de_type (by rfl) T.n_str (by decide +kernel)) da_nil))))))))) (dss_one (ds_ret de_bl)) dss_nil) (dss_cons (ds_set 1 sc_is_instruction.nd rfl (by first | exact Or.inl rfl | exact Or.inr rfl) (de_kget T.k_GREATEST (T.t_GREATEST _ rfl) (pe_K (by rfl) T.c_GREATEST) (de_ix ix_seq od_ix (de_var 0) de_int) ⟨rfl, rfl, rfl, rfl⟩)) (dss_cons (ds_if (dt_w (dw_or (dt_cmp or_is od_is (de_var 1) de_non) (dw_or1 (dt_cmp (op_neD (hu64 hr)) od_ne (de_callB call_len cd_len (by rfl) T.n_len (by decide +kernel) (da_cons (de_var 0) da_nil)) (de_op or_add od_add de_int (de_callB call_len cd_len (by rfl) T.n_len (by decide +kernel) (da_cons (de_var 1) da_nil))))))) (dss_one (ds_ret de_bl)) dss_nil) (dss_one (ds_ret (de_callB (cr_all rfl) cd_all (by rfl) T.n_all (by decide +kernel) (da_cons (de_comp (own := [("number", 2), ("limit", 3)]) (p := (.tp [(.nm 2), (.nm 3)])) rfl sc_is_instruction.nd (di_zip (by rfl) T.n_zip (da_cons (de_sl (de_var 0) (do_some de_int) do_none) (da_cons (de_var 1) da_nil))) (blkOk_by (N := N_is_instruction) (sc := (defScope s_is_instruction)) (by decide +kernel)) (by decide) (fun _ _ _ _ _ => (dg_tp rfl (dgs_cons (dg_nm (i := 2) sc_is_instruction.nd rfl (by first | exact Or.inl rfl | exact Or.inr rfl)) (dgs_cons (dg_nm (i := 3) sc_is_instruction.nd rfl (by first | exact Or.inl rfl | exact Or.inr rfl)) dgs_nil)))) (fun _ _ _ _ _ => dts_nil) (fun _ _ _ _ _ => (de_call (ok_is_number T) takesF (hr.mono (by decide)) (by rfl) T.g_is_number T.F_is_number.kp T.b_is_number rfl (da_cons (de_var 2) (da_cons (de_var 3) da_nil)) (hfl := (al_cons (al_cons al_nil)))))) da_nil)))))))
theorem ok_is_core {w : World} {K : PySem.W.Frag} {mg : Str → Option Value} {base : Heap} (T : Txt K w mg) : FnD P w K mg base 3 T.a_is_core T.d_is_core ["value"] m_is_core :=
  fnD_of T.F_is_core sc_is_core fun cdv A outer s H E hr => (dss_cons (ds_if (dt_w (dw_or (dt_not (dt_tr (de_callB call_isi cd_isi (by rfl) T.n_isinstance (by decide +kernel) (da_cons (de_var 0) (da_cons (de_type (by rfl) T.n_tuple (by decide +kernel)) da_nil))))) (dw_or1 (dt_cmp op_gt od_gt (de_callB call_len cd_len (by rfl) T.n_len (by decide +kernel) (da_cons (de_var 0) da_nil)) (de_glob (v := .int (5)) (by rfl) T.c_MOST_IN_CORE.1 T.c_MOST_IN_CORE.2 (fun _ _ => .int _)))))) (dss_one (ds_ret de_bl)) dss_nil) (dss_one (ds_ret (de_callB (cr_all rfl) cd_all (by rfl) T.n_all (by decide +kernel) (da_cons (de_comp (own := [("item", 1)]) (p := (.nm 1)) rfl sc_is_core.nd (di_seq (de_var 0)) (blkOk_by (N := N_is_core) (sc := (defScope s_is_core)) (by decide +kernel)) (by decide) (fun _ _ _ _ _ => (dg_nm (i := 1) sc_is_core.nd rfl (by first | exact Or.inl rfl | exact Or.inr rfl))) (fun _ _ _ _ _ => dts_nil) (fun _ _ _ _ _ => (de_call (ok_is_instruction T) takesF (hr.mono (by decide)) (by rfl) T.g_is_instruction T.F_is_instruction.kp T.b_is_instruction rfl (da_cons (de_var 1) da_nil) (hfl := (al_cons al_nil))))) da_nil)))))
theorem ok_check_program {w : World} {K : PySem.W.Frag} {mg : Str → Option Value} {base : Heap} (T : Txt K w mg) : FnD P w K mg base 4 T.a_check_program T.d_check_program ["value"] m_check_program :=
  fnD_of T.F_check_program sc_check_program fun cdv A outer s H E hr => (dss_cons (ds_if (dt_w (dw_or (dt_not (dt_tr (de_callB call_isi cd_isi (by rfl) T.n_isinstance (by decide +kernel) (da_cons (de_var 0) (da_cons (de_type (by rfl) T.n_tuple (by decide +kernel)) da_nil))))) (dw_or1 (dt_not (dt_chain op_le op_le od_le od_le de_int (de_callB call_len cd_len (by rfl) T.n_len (by decide +kernel) (da_cons (de_var 0) da_nil)) (de_glob (v := .int (3)) (by rfl) T.c_MOST_CORES.1 T.c_MOST_CORES.2 (fun _ _ => .int _))))))) dss_bad dss_nil) (dss_cons (ds_set 1 sc_check_program.nd rfl (by first | exact Or.inl rfl | exact Or.inr rfl) de_int) (dss_one (ds_for (p := (.tp [(.nm 2), (.nm 3)])) (passes_of rfl) rfl (di_enum (by rfl) T.n_enumerate (da_cons (de_var 0) da_nil)) (dg_tp rfl (dgs_cons (dg_nm (i := 2) sc_check_program.nd rfl (by first | exact Or.inl rfl | exact Or.inr rfl)) (dgs_cons (dg_nm (i := 3) sc_check_program.nd rfl (by first | exact Or.inl rfl | exact Or.inr rfl)) dgs_nil))) (dss_cons (ds_if (dt_w (dw_or (dt_not (dt_tr (de_call (ok_is_core T) (takes_of rfl rfl rfl rfl) (hr.mono (by decide)) (by rfl) T.g_is_core T.F_is_core.kp T.b_is_core rfl (da_cons (de_var 3) da_nil) (hfl := (al_cons al_nil))))) (dw_or1 (dt_cmp op_gt od_gt (de_op or_add od_add (de_var 1) (de_callB call_len cd_len (by rfl) T.n_len (by decide +kernel) (da_cons (de_var 3) da_nil))) (de_glob (v := .int (10)) (by rfl) T.c_MOST_IN_ALL.1 T.c_MOST_IN_ALL.2 (fun _ _ => .int _)))))) dss_bad dss_nil) (dss_one (ds_aug (i := 1) sc_check_program.nd rfl (by first | exact Or.inl rfl | exact Or.inr rfl) (de_callB call_len cd_len (by rfl) T.n_len (by decide +kernel) (da_cons (de_var 3) da_nil)) ip_add od_iadd)))))))
theorem ok_is_reading {w : World} {K : PySem.W.Frag} {mg : Str → Option Value} {base : Heap} (T : Txt K w mg) : FnD P w K mg base 1 T.a_is_reading T.d_is_reading ["instruction"] m_is_reading :=
  fnD_of T.F_is_reading sc_is_reading fun cdv A outer s H E hr => (dss_one (ds_ret (de_cmp (op_eqD (hu64 hr)) od_eq (de_ix ix_seq od_ix (de_var 0) de_int) de_str)))
theorem ok_is_writing {w : World} {K : PySem.W.Frag} {mg : Str → Option Value} {base : Heap} (T : Txt K w mg) : FnD P w K mg base 1 T.a_is_writing T.d_is_writing ["instruction"] m_is_writing :=
  fnD_of T.F_is_writing sc_is_writing fun cdv A outer s H E hr => (dss_one (ds_ret (de_cmp (or_in (hu65 hr)) (od_in false) (de_ix ix_seq od_ix (de_var 0) de_int) (de_tup (da_cons de_str (da_cons de_str da_nil))))))
theorem ok_cell_of {w : World} {K : PySem.W.Frag} {mg : Str → Option Value} {base : Heap} (T : Txt K w mg) : FnD P w K mg base 2 T.a_cell_of T.d_cell_of ["instruction"] m_cell_of :=
  fnD_of T.F_cell_of sc_cell_of fun cdv A outer s H E hr => (dss_cons (ds_if (dt_tr (de_call (ok_is_reading T) (takes_of rfl rfl rfl rfl) (hr.mono (by decide)) (by rfl) T.g_is_reading T.F_is_reading.kp T.b_is_reading rfl (da_cons (de_var 0) da_nil) (hfl := (al_cons al_nil)))) (dss_one (ds_ret (de_ix ix_seq od_ix (de_var 0) de_int))) dss_nil) (dss_cons (ds_if (dt_tr (de_call (ok_is_writing T) (takes_of rfl rfl rfl rfl) (hr.mono (by decide)) (by rfl) T.g_is_writing T.F_is_writing.kp T.b_is_writing rfl (da_cons (de_var 0) da_nil) (hfl := (al_cons al_nil)))) (dss_one (ds_ret (de_ix ix_seq od_ix (de_var 0) de_int))) dss_nil) (dss_one (ds_ret de_non))))
theorem ok_is_kept_behind_guard {w : World} {K : PySem.W.Frag} {mg : Str → Option Value} {base : Heap} (T : Txt K w mg) : FnD P w K mg base 2 T.a_is_kept_behind_guard T.d_is_kept_behind_guard ["design", "later"] m_is_kept_behind_guard :=
  fnD_of T.F_is_kept_behind_guard sc_is_kept_behind_guard fun cdv A outer s H E hr => (dss_cons (ds_if (dt_tr (de_call (ok_is_reading T) (takes_of rfl rfl rfl rfl) (hr.mono (by decide)) (by rfl) T.g_is_reading T.F_is_reading.kp T.b_is_reading rfl (da_cons (de_var 1) da_nil) (hfl := (al_cons al_nil)))) (dss_one (ds_ret (de_cmp (or_in (hu65 hr)) (od_in false) de_str (de_var 0)))) dss_nil) (dss_cons (ds_if (dt_tr (de_call (ok_is_writing T) (takes_of rfl rfl rfl rfl) (hr.mono (by decide)) (by rfl) T.g_is_writing T.F_is_writing.kp T.b_is_writing rfl (da_cons (de_var 1) da_nil) (hfl := (al_cons al_nil)))) (dss_one (ds_ret (de_cmp (or_in (hu65 hr)) (od_in false) de_str (de_var 0)))) dss_nil) (dss_one (ds_ret de_bl))))
theorem ok_is_kept_on_cell {w : World} {K : PySem.W.Frag} {mg : Str → Option Value} {base : Heap} (T : Txt K w mg) : FnD P w K mg base 2 T.a_is_kept_on_cell T.d_is_kept_on_cell ["design", "earlier", "later"] m_is_kept_on_cell :=
  fnD_of T.F_is_kept_on_cell sc_is_kept_on_cell fun cdv A outer s H E hr => (dss_cons (ds_if (dt_tr (de_call (ok_is_writing T) (takes_of rfl rfl rfl rfl) (hr.mono (by decide)) (by rfl) T.g_is_writing T.F_is_writing.kp T.b_is_writing rfl (da_cons (de_var 2) da_nil) (hfl := (al_cons al_nil)))) (dss_one (ds_ret de_bl)) dss_nil) (dss_cons (ds_if (dt_tr (de_call (ok_is_writing T) (takes_of rfl rfl rfl rfl) (hr.mono (by decide)) (by rfl) T.g_is_writing T.F_is_writing.kp T.b_is_writing rfl (da_cons (de_var 1) da_nil) (hfl := (al_cons al_nil)))) (dss_one (ds_ret (de_cmp (or_notin (hu65 hr)) (od_in true) de_str (de_var 0)))) dss_nil) (dss_one (ds_ret (de_cmp (or_in (hu65 hr)) (od_in false) de_str (de_var 0))))))
theorem ok_kind_of {w : World} {K : PySem.W.Frag} {mg : Str → Option Value} {base : Heap} (T : Txt K w mg) : FnD P w K mg base 2 T.a_kind_of T.d_kind_of ["instruction"] m_kind_of :=
  fnD_of T.F_kind_of sc_kind_of fun cdv A outer s H E hr => (dss_cons (ds_if (dt_tr (de_call (ok_is_reading T) (takes_of rfl rfl rfl rfl) (hr.mono (by decide)) (by rfl) T.g_is_reading T.F_is_reading.kp T.b_is_reading rfl (da_cons (de_var 0) da_nil) (hfl := (al_cons al_nil)))) (dss_one (ds_ret de_str)) dss_nil) (dss_one (ds_ret de_str)))
theorem ok_last_read {w : World} {K : PySem.W.Frag} {mg : Str → Option Value} {base : Heap} (T : Txt K w mg) : FnD P w K mg base 2 T.a_last_read T.d_last_read ["core", "number", "place"] m_last_read :=
  fnD_of T.F_last_read sc_last_read fun cdv A outer s H E hr => (dss_cons (ds_set 3 sc_last_read.nd rfl (by first | exact Or.inl rfl | exact Or.inr rfl) de_non) (dss_cons (ds_for (p := (.nm 4)) (passes_of rfl) rfl (di_range1 (by rfl) T.n_range (da_cons (de_var 2) da_nil)) (dg_nm (i := 4) sc_last_read.nd rfl (by first | exact Or.inl rfl | exact Or.inr rfl)) (dss_one (ds_if (dt_w (dw_and (dt_tr (de_call (ok_is_reading T) (takes_of rfl rfl rfl rfl) (hr.mono (by decide)) (by rfl) T.g_is_reading T.F_is_reading.kp T.b_is_reading rfl (da_cons (de_ix ix_seq od_ix (de_var 0) (de_var 4)) da_nil) (hfl := (al_cons al_nil)))) (dw_and1 (dt_cmp (op_eqD (hu64 hr)) od_eq (de_ix ix_seq od_ix (de_ix ix_seq od_ix (de_var 0) (de_var 4)) de_int) (de_var 1))))) (dss_one (ds_set 3 sc_last_read.nd rfl (by first | exact Or.inl rfl | exact Or.inr rfl) (de_var 4))) dss_nil))) (dss_one (ds_ret (de_var 3)))))
theorem ok_used_by {w : World} {K : PySem.W.Frag} {mg : Str → Option Value} {base : Heap} (T : Txt K w mg) : FnD P w K mg base 1 T.a_used_by T.d_used_by ["instruction"] m_used_by :=
  fnD_of T.F_used_by sc_used_by fun cdv A outer s H E hr => (dss_cons (ds_if (dt_cmp (op_eqD (hu64 hr)) od_eq (de_ix ix_seq od_ix (de_var 0) de_int) de_str) (dss_one (ds_ret (de_ix ix_seq od_ix (de_var 0) de_int))) dss_nil) (dss_cons (ds_if (dt_cmp (op_eqD (hu64 hr)) od_eq (de_ix ix_seq od_ix (de_var 0) de_int) de_str) (dss_one (ds_ret (de_ix ix_seq od_ix (de_var 0) de_int))) dss_nil) (dss_one (ds_ret de_non))))
theorem ok_is_kept {w : World} {K : PySem.W.Frag} {mg : Str → Option Value} {base : Heap} (T : Txt K w mg) : FnD P w K mg base 3 T.a_is_kept T.d_is_kept ["design", "core", "first", "second"] m_is_kept :=
  fnD_of T.F_is_kept sc_is_kept fun cdv A outer s H E hr => (dss_cons (ds_par (i := 4) (j := 5) rfl sc_is_kept.nd rfl rfl (by decide) rfl rfl (da_cons (de_ix ix_seq od_ix (de_var 1) (de_var 2)) (da_cons (de_ix ix_seq od_ix (de_var 1) (de_var 3)) da_nil)) rfl) (dss_cons (ds_if (dt_w (dw_or (dt_cmp (op_eqD (hu64 hr)) od_eq (de_ix ix_seq od_ix (de_var 4) de_int) de_str) (dw_or1 (dt_cmp (op_eqD (hu64 hr)) od_eq (de_ix ix_seq od_ix (de_var 5) de_int) de_str)))) (dss_one (ds_ret de_bl)) dss_nil) (dss_cons (ds_if (dt_w (dw_and (dt_cmp or_isnot od_isnot (de_call (ok_used_by T) (takes_of rfl rfl rfl rfl) (hr.mono (by decide)) (by rfl) T.g_used_by T.F_used_by.kp T.b_used_by rfl (da_cons (de_var 5) da_nil) (hfl := (al_cons al_nil))) de_non) (dw_and1 (dt_cmp (op_eqD (hu64 hr)) od_eq (de_call (ok_last_read T) (takes_of rfl rfl rfl rfl) (hr.mono (by decide)) (by rfl) T.g_last_read T.F_last_read.kp T.b_last_read rfl (da_cons (de_var 1) (da_cons (de_call (ok_used_by T) (takes_of rfl rfl rfl rfl) (hr.mono (by decide)) (by rfl) T.g_used_by T.F_used_by.kp T.b_used_by rfl (da_cons (de_var 5) da_nil) (hfl := (al_cons al_nil))) (da_cons (de_var 3) da_nil))) (hfl := (al_cons (al_cons (al_cons al_nil))))) (de_var 2))))) (dss_one (ds_ret de_bl)) dss_nil) (dss_cons (ds_if (dt_cmp (op_eqD (hu64 hr)) od_eq (de_ix ix_seq od_ix (de_var 4) de_int) de_str) (dss_one (ds_ret (de_call (ok_is_kept_behind_guard T) (takes_of rfl rfl rfl rfl) (hr.mono (by decide)) (by rfl) T.g_is_kept_behind_guard T.F_is_kept_behind_guard.kp T.b_is_kept_behind_guard rfl (da_cons (de_var 0) (da_cons (de_var 5) da_nil)) (hfl := (al_cons (al_cons al_nil)))))) dss_nil) (dss_cons (ds_if (dt_w (dw_or (dt_cmp or_is od_is (de_call (ok_cell_of T) (takes_of rfl rfl rfl rfl) (hr.mono (by decide)) (by rfl) T.g_cell_of T.F_cell_of.kp T.b_cell_of rfl (da_cons (de_var 4) da_nil) (hfl := (al_cons al_nil))) de_non) (dw_or1 (dt_cmp or_is od_is (de_call (ok_cell_of T) (takes_of rfl rfl rfl rfl) (hr.mono (by decide)) (by rfl) T.g_cell_of T.F_cell_of.kp T.b_cell_of rfl (da_cons (de_var 5) da_nil) (hfl := (al_cons al_nil))) de_non)))) (dss_one (ds_ret de_bl)) dss_nil) (dss_cons (ds_if (dt_cmp (op_eqD (hu64 hr)) od_eq (de_call (ok_cell_of T) (takes_of rfl rfl rfl rfl) (hr.mono (by decide)) (by rfl) T.g_cell_of T.F_cell_of.kp T.b_cell_of rfl (da_cons (de_var 4) da_nil) (hfl := (al_cons al_nil))) (de_call (ok_cell_of T) (takes_of rfl rfl rfl rfl) (hr.mono (by decide)) (by rfl) T.g_cell_of T.F_cell_of.kp T.b_cell_of rfl (da_cons (de_var 5) da_nil) (hfl := (al_cons al_nil)))) (dss_one (ds_ret (de_call (ok_is_kept_on_cell T) (takes_of rfl rfl rfl rfl) (hr.mono (by decide)) (by rfl) T.g_is_kept_on_cell T.F_is_kept_on_cell.kp T.b_is_kept_on_cell rfl (da_cons (de_var 0) (da_cons (de_var 4) (da_cons (de_var 5) da_nil))) (hfl := (al_cons (al_cons (al_cons al_nil))))))) dss_nil) (dss_one (ds_ret (de_cmp (or_in (hu65 hr)) (od_in false) (de_op or_add od_add (de_call (ok_kind_of T) (takes_of rfl rfl rfl rfl) (hr.mono (by decide)) (by rfl) T.g_kind_of T.F_kind_of.kp T.b_kind_of rfl (da_cons (de_var 4) da_nil) (hfl := (al_cons al_nil))) (de_call (ok_kind_of T) (takes_of rfl rfl rfl rfl) (hr.mono (by decide)) (by rfl) T.g_kind_of T.F_kind_of.kp T.b_kind_of rfl (da_cons (de_var 5) da_nil) (hfl := (al_cons al_nil)))) (de_var 0))))))))))
theorem ok_last_writing {w : World} {K : PySem.W.Frag} {mg : Str → Option Value} {base : Heap} (T : Txt K w mg) : FnD P w K mg base 3 T.a_last_writing T.d_last_writing ["core", "cell", "place"] m_last_writing :=
  fnD_of T.F_last_writing sc_last_writing fun cdv A outer s H E hr => (dss_cons (ds_set 3 sc_last_writing.nd rfl (by first | exact Or.inl rfl | exact Or.inr rfl) de_non) (dss_cons (ds_for (p := (.nm 4)) (passes_of rfl) rfl (di_range1 (by rfl) T.n_range (da_cons (de_var 2) da_nil)) (dg_nm (i := 4) sc_last_writing.nd rfl (by first | exact Or.inl rfl | exact Or.inr rfl)) (dss_one (ds_if (dt_w (dw_and (dt_tr (de_call (ok_is_writing T) (takes_of rfl rfl rfl rfl) (hr.mono (by decide)) (by rfl) T.g_is_writing T.F_is_writing.kp T.b_is_writing rfl (da_cons (de_ix ix_seq od_ix (de_var 0) (de_var 4)) da_nil) (hfl := (al_cons al_nil)))) (dw_and1 (dt_cmp (op_eqD (hu64 hr)) od_eq (de_call (ok_cell_of T) (takes_of rfl rfl rfl rfl) (hr.mono (by decide)) (by rfl) T.g_cell_of T.F_cell_of.kp T.b_cell_of rfl (da_cons (de_ix ix_seq od_ix (de_var 0) (de_var 4)) da_nil) (hfl := (al_cons al_nil))) (de_var 1))))) (dss_one (ds_set 3 sc_last_writing.nd rfl (by first | exact Or.inl rfl | exact Or.inr rfl) (de_var 4))) dss_nil))) (dss_one (ds_ret (de_var 3)))))
theorem ok_waits_for_copied {w : World} {K : PySem.W.Frag} {mg : Str → Option Value} {base : Heap} (T : Txt K w mg) : FnD P w K mg base 4 T.a_waits_for_copied T.d_waits_for_copied ["design", "core", "first", "second"] m_waits_for_copied :=
  fnD_of T.F_waits_for_copied sc_waits_for_copied fun cdv A outer s H E hr => (dss_cons (ds_if (dt_w (dw_or (dt_cmp (or_notin (hu65 hr)) (od_in true) de_str (de_var 0)) (dw_or1 (dt_not (dt_tr (de_call (ok_is_reading T) (takes_of rfl rfl rfl rfl) (hr.mono (by decide)) (by rfl) T.g_is_reading T.F_is_reading.kp T.b_is_reading rfl (da_cons (de_ix ix_seq od_ix (de_var 1) (de_var 3)) da_nil) (hfl := (al_cons al_nil)))))))) (dss_one (ds_ret de_bl)) dss_nil) (dss_cons (ds_set 4 sc_waits_for_copied.nd rfl (by first | exact Or.inl rfl | exact Or.inr rfl) (de_call (ok_last_writing T) (takes_of rfl rfl rfl rfl) (hr.mono (by decide)) (by rfl) T.g_last_writing T.F_last_writing.kp T.b_last_writing rfl (da_cons (de_var 1) (da_cons (de_call (ok_cell_of T) (takes_of rfl rfl rfl rfl) (hr.mono (by decide)) (by rfl) T.g_cell_of T.F_cell_of.kp T.b_cell_of rfl (da_cons (de_ix ix_seq od_ix (de_var 1) (de_var 3)) da_nil) (hfl := (al_cons al_nil))) (da_cons (de_var 3) da_nil))) (hfl := (al_cons (al_cons (al_cons al_nil)))))) (dss_cons (ds_if (dt_w (dw_or (dt_cmp or_is od_is (de_var 4) de_non) (dw_or1 (dt_cmp (op_neD (hu64 hr)) od_ne (de_ix ix_seq od_ix (de_ix ix_seq od_ix (de_var 1) (de_var 4)) de_int) de_str)))) (dss_one (ds_ret de_bl)) dss_nil) (dss_one (ds_ret (de_cmp (op_eqD (hu64 hr)) od_eq (de_call (ok_last_read T) (takes_of rfl rfl rfl rfl) (hr.mono (by decide)) (by rfl) T.g_last_read T.F_last_read.kp T.b_last_read rfl (da_cons (de_var 1) (da_cons (de_call (ok_used_by T) (takes_of rfl rfl rfl rfl) (hr.mono (by decide)) (by rfl) T.g_used_by T.F_used_by.kp T.b_used_by rfl (da_cons (de_ix ix_seq od_ix (de_var 1) (de_var 4)) da_nil) (hfl := (al_cons al_nil))) (da_cons (de_var 4) da_nil))) (hfl := (al_cons (al_cons (al_cons al_nil))))) (de_var 2)))))))
theorem ok_must_wait {w : World} {K : PySem.W.Frag} {mg : Str → Option Value} {base : Heap} (T : Txt K w mg) : FnD P w K mg base 5 T.a_must_wait T.d_must_wait ["design", "core", "first", "second"] m_must_wait :=
  fnD_of T.F_must_wait sc_must_wait fun cdv A outer s H E hr => (dss_one (ds_ret (de_or (de_call (ok_is_kept T) (takes_of rfl rfl rfl rfl) (hr.mono (by decide)) (by rfl) T.g_is_kept T.F_is_kept.kp T.b_is_kept rfl (da_cons (de_var 0) (da_cons (de_var 1) (da_cons (de_var 2) (da_cons (de_var 3) da_nil)))) (hfl := (al_cons (al_cons (al_cons (al_cons al_nil)))))) (de_one (de_call (ok_waits_for_copied T) (takes_of rfl rfl rfl rfl) (hr.mono (by decide)) (by rfl) T.g_waits_for_copied T.F_waits_for_copied.kp T.b_waits_for_copied rfl (da_cons (de_var 0) (da_cons (de_var 1) (da_cons (de_var 2) (da_cons (de_var 3) da_nil)))) (hfl := (al_cons (al_cons (al_cons (al_cons al_nil))))))))))
theorem ok_source_of {w : World} {K : PySem.W.Frag} {mg : Str → Option Value} {base : Heap} (T : Txt K w mg) : FnD P w K mg base 4 T.a_source_of T.d_source_of ["core", "place"] m_source_of :=
  fnD_of T.F_source_of sc_source_of fun cdv A outer s H E hr => (dss_cons (ds_set 2 sc_source_of.nd rfl (by first | exact Or.inl rfl | exact Or.inr rfl) (de_ix ix_seq od_ix (de_var 0) (de_var 1))) (dss_cons (ds_if (dt_tr (de_call (ok_is_reading T) (takes_of rfl rfl rfl rfl) (hr.mono (by decide)) (by rfl) T.g_is_reading T.F_is_reading.kp T.b_is_reading rfl (da_cons (de_var 2) da_nil) (hfl := (al_cons al_nil)))) (dss_one (ds_ret (de_call (ok_last_writing T) (takes_of rfl rfl rfl rfl) (hr.mono (by decide)) (by rfl) T.g_last_writing T.F_last_writing.kp T.b_last_writing rfl (da_cons (de_var 0) (da_cons (de_call (ok_cell_of T) (takes_of rfl rfl rfl rfl) (hr.mono (by decide)) (by rfl) T.g_cell_of T.F_cell_of.kp T.b_cell_of rfl (da_cons (de_var 2) da_nil) (hfl := (al_cons al_nil))) (da_cons (de_var 1) da_nil))) (hfl := (al_cons (al_cons (al_cons al_nil))))))) dss_nil) (dss_cons (ds_if (dt_cmp or_isnot od_isnot (de_call (ok_used_by T) (takes_of rfl rfl rfl rfl) (hr.mono (by decide)) (by rfl) T.g_used_by T.F_used_by.kp T.b_used_by rfl (da_cons (de_var 2) da_nil) (hfl := (al_cons al_nil))) de_non) (dss_one (ds_ret (de_call (ok_last_read T) (takes_of rfl rfl rfl rfl) (hr.mono (by decide)) (by rfl) T.g_last_read T.F_last_read.kp T.b_last_read rfl (da_cons (de_var 0) (da_cons (de_call (ok_used_by T) (takes_of rfl rfl rfl rfl) (hr.mono (by decide)) (by rfl) T.g_used_by T.F_used_by.kp T.b_used_by rfl (da_cons (de_var 2) da_nil) (hfl := (al_cons al_nil))) (da_cons (de_var 1) da_nil))) (hfl := (al_cons (al_cons (al_cons al_nil))))))) dss_nil) (dss_one (ds_ret de_non)))))
def lb_steps_on {w : World} {K : PySem.W.Frag} {mg : Str → Option Value} {base : Heap} (T : Txt K w mg) : LamB P w K mg base 5 3 "steps_on" lg_steps_on where
  L := L_steps_on
  ps := ["core", "first", "second"]
  is := by kernel_rfl
  lam := lamP_by (by kernel_rfl)
  len := rfl
  bind := fun q cl pm cv ctv us h => match us, h with | [_, _, _], _ => rfl
  body := by
    intro X hP hw hK hmg hb A outer s H E f c' cl hr
    obtain ⟨x1, x2, x3, x4, x5, x6, x7, x8, x9, x10, x11, x12, x13, x14, x15, x16, x17⟩ := X
    change x1 = P at hP
    change x2 = w at hw
    change x3 = K at hK
    change x4 = mg at hmg
    change x5 = base at hb
    subst hP hw hK hmg hb
    exact (de_call (ok_must_wait T) (takes_of rfl rfl rfl rfl) (hr.mono (by decide)) (by rfl) T.g_must_wait T.F_must_wait.kp T.b_must_wait rfl (da_cons (de_var 0) (da_cons (de_var 1) (da_cons (de_var 2) (da_cons (de_var 3) da_nil)))) (hfl := (al_cons (al_cons (al_cons (al_cons al_nil))))))
theorem clo_ok {w : World} {K : PySem.W.Frag} {mg : Str → Option Value} {base : Heap} (T : Txt K w mg) : ∀ d gb, clo_tab.lookup d = some gb → Nonempty (LamB P w K mg base 5 3 d gb) := by
  intro d gb h
  simp only [clo_tab, List.lookup_cons, List.lookup_nil] at h
  split at h
  · rename_i e
    cases h
    rw [eq_of_beq e]
    exact ⟨lb_steps_on T⟩
  · cases h
theorem ok_Step_init {w : World} {K : PySem.W.Frag} {mg : Str → Option Value} {base : Heap} (T : Txt K w mg) : FnD P w K mg base 7 T.a_Step_init T.d_Step_init ["self", "number", "core", "place", "start", "waits_for"] m_Step_init :=
  fnD_of T.F_Step_init sc_Step_init fun cdv A outer s H E hr => (dss_cons (ds_fld T.i_Step T.na_Step_event (de_var 0) (de_tup (da_cons (de_var 1) (da_cons (de_var 3) da_nil)))) (dss_cons (ds_fld T.i_Step T.na_Step_instruction (de_var 0) (de_ix ix_seq od_ix (de_var 2) (de_var 3))) (dss_cons (ds_fld T.i_Step T.na_Step_waits (de_var 0) (de_callTy call_tuple_of cd_tuple (by rfl) T.n_tuple (by decide +kernel) (da_cons (de_comp (own := [("first", 7)]) (p := (.nm 7)) rfl sc_Step_init.nd (di_range1 (by rfl) T.n_range (da_cons (de_var 3) da_nil)) (blkOk_by (N := N_Step_init) (sc := (defScope s_Step_init)) (by decide +kernel)) (by decide) (fun _ _ _ _ _ => (dg_nm (i := 7) sc_Step_init.nd rfl (by first | exact Or.inl rfl | exact Or.inr rfl))) (fun _ _ _ _ _ => (dts_one (dt_tr (de_clo (k := 5) (i := 5) rfl (by first | exact Or.inl rfl | exact Or.inr (Or.inl rfl) | exact Or.inr (Or.inr rfl)) (hr.mono (by decide)) (clo_ok T) (da_cons (de_var 2) (da_cons (de_var 7) (da_cons (de_var 3) da_nil))) (hfl := (al_cons (al_cons (al_cons al_nil)))))))) (fun _ _ _ _ _ => (de_op or_add od_add (de_var 4) (de_var 7)))) da_nil))) (dss_cons (ds_fld T.i_Step T.na_Step_behind (de_var 0) (de_callTy call_tuple_of cd_tuple (by rfl) T.n_tuple (by decide +kernel) (da_cons (de_comp (own := [("later", 8)]) (p := (.nm 8)) rfl sc_Step_init.nd (di_range2 (by rfl) T.n_range (da_cons (de_op or_add od_add (de_var 3) de_int) (da_cons (de_callB call_len cd_len (by rfl) T.n_len (by decide +kernel) (da_cons (de_var 2) da_nil)) da_nil))) (blkOk_by (N := N_Step_init) (sc := (defScope s_Step_init)) (by decide +kernel)) (by decide) (fun _ _ _ _ _ => (dg_nm (i := 8) sc_Step_init.nd rfl (by first | exact Or.inl rfl | exact Or.inr rfl))) (fun _ _ _ _ _ => dts_nil) (fun _ _ _ _ _ => (de_op or_add od_add (de_var 4) (de_var 8)))) da_nil))) (dss_cons (ds_set 6 sc_Step_init.nd rfl (by first | exact Or.inl rfl | exact Or.inr rfl) (de_call (ok_source_of T) (takes_of rfl rfl rfl rfl) (hr.mono (by decide)) (by rfl) T.g_source_of T.F_source_of.kp T.b_source_of rfl (da_cons (de_var 2) (da_cons (de_var 3) da_nil)) (hfl := (al_cons (al_cons al_nil))))) (dss_one (ds_fld T.i_Step T.na_Step_source (de_var 0) (de_if (dt_cmp or_is od_is (de_var 6) de_non) de_non (de_op or_add od_add (de_var 4) (de_var 6))))))))))
theorem ok_make_steps {w : World} {K : PySem.W.Frag} {mg : Str → Option Value} {base : Heap} (T : Txt K w mg) : FnD P w K mg base 9 T.a_make_steps T.d_make_steps ["program", "waits_for"] m_make_steps :=
  fnD_of T.F_make_steps sc_make_steps fun cdv A outer s H E hr => (dss_cons (ds_set 2 sc_make_steps.nd rfl (by first | exact Or.inl rfl | exact Or.inr rfl) (de_lst da_nil)) (dss_cons (ds_for (p := (.tp [(.nm 3), (.nm 4)])) (passes_of rfl) rfl (di_enum (by rfl) T.n_enumerate (da_cons (de_var 0) da_nil)) (dg_tp rfl (dgs_cons (dg_nm (i := 3) sc_make_steps.nd rfl (by first | exact Or.inl rfl | exact Or.inr rfl)) (dgs_cons (dg_nm (i := 4) sc_make_steps.nd rfl (by first | exact Or.inl rfl | exact Or.inr rfl)) dgs_nil))) (dss_cons (ds_set 5 sc_make_steps.nd rfl (by first | exact Or.inl rfl | exact Or.inr rfl) (de_callB call_len cd_len (by rfl) T.n_len (by decide +kernel) (da_cons (de_var 2) da_nil))) (dss_one (ds_set 2 sc_make_steps.nd rfl (by first | exact Or.inl rfl | exact Or.inr rfl) (de_op or_add od_add (de_var 2) (de_comp (own := [("place", 6)]) (p := (.nm 6)) rfl sc_make_steps.nd (di_range1 (by rfl) T.n_range (da_cons (de_callB call_len cd_len (by rfl) T.n_len (by decide +kernel) (da_cons (de_var 4) da_nil)) da_nil)) (blkOk_by (N := N_make_steps) (sc := (defScope s_make_steps)) (by decide +kernel)) (by decide) (fun _ _ _ _ _ => (dg_nm (i := 6) sc_make_steps.nd rfl (by first | exact Or.inl rfl | exact Or.inr rfl))) (fun _ _ _ _ _ => dts_nil) (fun _ _ _ _ _ => (de_make T.mk_Step (ok_Step_init T) (hr.mono (by decide)) (by rfl) T.g_Step T.b_Step_init T.i_Step.g rfl (da_cons (de_var 3) (da_cons (de_var 4) (da_cons (de_var 6) (da_cons (de_var 5) (da_cons (de_var 1) da_nil))))) (hfl := (al_cons (al_cons (al_cons (al_cons (al_cons al_nil)))))))))))))) (dss_one (ds_ret (de_var 2)))))
theorem ok_steps_on {w : World} {K : PySem.W.Frag} {mg : Str → Option Value} {base : Heap} (T : Txt K w mg) (L_steps_on : LawT K mg base "steps_on" s_steps_on T.a_steps_on T.d_steps_on) : FnD P w K mg base 10 T.a_steps_on T.d_steps_on ["design", "program"] m_steps_on :=
  fnD_ofC L_steps_on sc_steps_on fun A outer s H E hr => (dss_one (ds_ret (de_lamArg (by rfl) T.g_make_steps T.F_make_steps.kp (fun b _ => ok_make_steps (base := b) T) T.b_make_steps rfl (hr.mono (by decide)) L_steps_on.tb rfl (by rfl) (by kernel_rfl) (is := [0]) ⟨rfl, rfl, rfl, trivial⟩ rfl (de_var 1))))
theorem ok_checked_steps {w : World} {K : PySem.W.Frag} {mg : Str → Option Value} {base : Heap} (T : Txt K w mg) (L_steps_on : LawT K mg base "steps_on" s_steps_on T.a_steps_on T.d_steps_on) : FnD P w K mg base 11 T.a_checked_steps T.d_checked_steps ["design", "program"] m_checked_steps :=
  fnD_of T.F_checked_steps sc_checked_steps fun cdv A outer s H E hr => (dss_cons (ds_expr (de_call (ok_check_design T) (takes_of rfl rfl rfl rfl) (hr.mono (by decide)) (by rfl) T.g_check_design T.F_check_design.kp T.b_check_design rfl (da_cons (de_var 0) da_nil) (hfl := (al_cons al_nil)))) (dss_cons (ds_expr (de_call (ok_check_program T) (takes_of rfl rfl rfl rfl) (hr.mono (by decide)) (by rfl) T.g_check_program T.F_check_program.kp T.b_check_program rfl (da_cons (de_var 1) da_nil) (hfl := (al_cons al_nil)))) (dss_one (ds_ret (de_call (ok_steps_on T L_steps_on) (takes_of rfl rfl rfl rfl) (hr.mono (by decide)) (by rfl) T.g_steps_on T.F_steps_on.kp T.b_steps_on rfl (da_cons (de_var 0) (da_cons (de_var 1) da_nil)) (hfl := (al_cons (al_cons al_nil))))))))
theorem ok_first_state {w : World} {K : PySem.W.Frag} {mg : Str → Option Value} {base : Heap} (T : Txt K w mg) : FnD P w K mg base 1 T.a_first_state T.d_first_state ["steps"] m_first_state :=
  fnD_of T.F_first_state sc_first_state fun cdv A outer s H E hr => (dss_one (ds_ret (de_tup (da_cons (de_op or_repA od_repA (de_tup (da_cons de_non da_nil)) (de_callB call_len cd_len (by rfl) T.n_len (by decide +kernel) (da_cons (de_var 0) da_nil))) (da_cons (de_glob (v := .ref T.a_FIRST_CELLS) (by rfl) T.c_FIRST_CELLS.1 rfl (fun β H => T.c_FIRST_CELLS.2 _ β H rfl)) da_nil)))))
theorem ok_number_of {w : World} {K : PySem.W.Frag} {mg : Str → Option Value} {base : Heap} (T : Txt K w mg) : FnD P w K mg base 2 T.a_number_of T.d_number_of ["steps", "event"] m_number_of :=
  fnD_of T.F_number_of sc_number_of fun cdv A outer s H E hr => (dss_cons (ds_if (dt_w (dw_or (dt_not (dt_tr (de_callB call_isi cd_isi (by rfl) T.n_isinstance (by decide +kernel) (da_cons (de_var 1) (da_cons (de_type (by rfl) T.n_tuple (by decide +kernel)) da_nil))))) (dw_or1 (dt_not (dt_tr (de_callB (cr_all rfl) cd_all (by rfl) T.n_all (by decide +kernel) (da_cons (de_comp (own := [("part", 4)]) (p := (.nm 4)) rfl sc_number_of.nd (di_seq (de_var 1)) (blkOk_by (N := N_number_of) (sc := (defScope s_number_of)) (by decide +kernel)) (by decide) (fun _ _ _ _ _ => (dg_nm (i := 4) sc_number_of.nd rfl (by first | exact Or.inl rfl | exact Or.inr rfl))) (fun _ _ _ _ _ => dts_nil) (fun _ _ _ _ _ => (de_call (ok_is_number T) takesF (hr.mono (by decide)) (by rfl) T.g_is_number T.F_is_number.kp T.b_is_number rfl (da_cons (de_var 4) (da_cons (de_glob (v := .int (10)) (by rfl) T.c_MOST_IN_ALL.1 T.c_MOST_IN_ALL.2 (fun _ _ => .int _)) da_nil)) (hfl := (al_cons (al_cons al_nil)))))) da_nil))))))) (dss_one (ds_ret de_non)) dss_nil) (dss_cons (ds_for (p := (.tp [(.nm 2), (.nm 3)])) (passes_of rfl) rfl (di_enum (by rfl) T.n_enumerate (da_cons (de_var 0) da_nil)) (dg_tp rfl (dgs_cons (dg_nm (i := 2) sc_number_of.nd rfl (by first | exact Or.inl rfl | exact Or.inr rfl)) (dgs_cons (dg_nm (i := 3) sc_number_of.nd rfl (by first | exact Or.inl rfl | exact Or.inr rfl)) dgs_nil))) (dss_one (ds_if (dt_cmp (op_eqD (hu64 hr)) od_eq (de_fld T.i_Step T.na_Step_event (de_var 3)) (de_var 1)) (dss_one (ds_ret (de_var 2))) dss_nil))) (dss_one (ds_ret de_non))))
theorem ok_word_used {w : World} {K : PySem.W.Frag} {mg : Str → Option Value} {base : Heap} (T : Txt K w mg) : FnD P w K mg base 1 T.a_word_used T.d_word_used ["step", "words"] m_word_used :=
  fnD_of T.F_word_used sc_word_used fun cdv A outer s H E hr => (dss_cons (ds_if (dt_cmp or_is od_is (de_fld T.i_Step T.na_Step_source (de_var 0)) de_non) (dss_one (ds_ret de_int)) dss_nil) (dss_one (ds_ret (de_ix ix_seq od_ix (de_var 1) (de_fld T.i_Step T.na_Step_source (de_var 0))))))
theorem ok_ends_core {w : World} {K : PySem.W.Frag} {mg : Str → Option Value} {base : Heap} (T : Txt K w mg) : FnD P w K mg base 2 T.a_ends_core T.d_ends_core ["step", "words"] m_ends_core :=
  fnD_of T.F_ends_core sc_ends_core fun cdv A outer s H E hr => (dss_one (ds_ret (de_and (de_cmp (op_eqD (hu64 hr)) od_eq (de_ix ix_seq od_ix (de_fld T.i_Step T.na_Step_instruction (de_var 0)) de_int) de_str) (de_one (de_cmp (op_neD (hu64 hr)) od_ne (de_call (ok_word_used T) (takes_of rfl rfl rfl rfl) (hr.mono (by decide)) (by rfl) T.g_word_used T.F_word_used.kp T.b_word_used rfl (da_cons (de_var 0) (da_cons (de_var 1) da_nil)) (hfl := (al_cons (al_cons al_nil)))) (de_ix ix_seq od_ix (de_fld T.i_Step T.na_Step_instruction (de_var 0)) de_int))))))
theorem ok_word_written {w : World} {K : PySem.W.Frag} {mg : Str → Option Value} {base : Heap} (T : Txt K w mg) : FnD P w K mg base 2 T.a_word_written T.d_word_written ["step", "words"] m_word_written :=
  fnD_of T.F_word_written sc_word_written fun cdv A outer s H E hr => (dss_cons (ds_if (dt_cmp (op_eqD (hu64 hr)) od_eq (de_ix ix_seq od_ix (de_fld T.i_Step T.na_Step_instruction (de_var 0)) de_int) de_str) (dss_one (ds_ret (de_ix ix_seq od_ix (de_fld T.i_Step T.na_Step_instruction (de_var 0)) de_int))) dss_nil) (dss_one (ds_ret (de_call (ok_word_used T) (takes_of rfl rfl rfl rfl) (hr.mono (by decide)) (by rfl) T.g_word_used T.F_word_used.kp T.b_word_used rfl (da_cons (de_var 0) (da_cons (de_var 1) da_nil)) (hfl := (al_cons (al_cons al_nil)))))))
theorem ok_word_taken {w : World} {K : PySem.W.Frag} {mg : Str → Option Value} {base : Heap} (T : Txt K w mg) : FnD P w K mg base 3 T.a_word_taken T.d_word_taken ["steps", "state", "step"] m_word_taken :=
  fnD_of T.F_word_taken sc_word_taken fun cdv A outer s H E hr => (dss_cons (ds_pat (p := (.tp [(.nm 3), (.nm 4)])) (de_var 1) (dg_tp rfl (dgs_cons (dg_nm (i := 3) sc_word_taken.nd rfl (by first | exact Or.inl rfl | exact Or.inr rfl)) (dgs_cons (dg_nm (i := 4) sc_word_taken.nd rfl (by first | exact Or.inl rfl | exact Or.inr rfl)) dgs_nil)))) (dss_cons (ds_if (dt_w (dw_and (dt_cmp or_isnot od_isnot (de_fld T.i_Step T.na_Step_source (de_var 2)) de_non) (dw_and1 (dt_cmp or_is od_is (de_ix ix_seq od_ix (de_var 3) (de_fld T.i_Step T.na_Step_source (de_var 2))) de_non)))) (dss_one (ds_ret (de_call (ok_word_written T) (takes_of rfl rfl rfl rfl) (hr.mono (by decide)) (by rfl) T.g_word_written T.F_word_written.kp T.b_word_written rfl (da_cons (de_ix ix_seq od_ix (de_var 0) (de_fld T.i_Step T.na_Step_source (de_var 2))) (da_cons (de_var 3) da_nil)) (hfl := (al_cons (al_cons al_nil)))))) dss_nil) (dss_one (ds_ret (de_ix ix_seq od_ix (de_var 4) (de_call (ok_cell_of T) (takes_of rfl rfl rfl rfl) (hr.mono (by decide)) (by rfl) T.g_cell_of T.F_cell_of.kp T.b_cell_of rfl (da_cons (de_fld T.i_Step T.na_Step_instruction (de_var 2)) da_nil) (hfl := (al_cons al_nil))))))))
theorem ok_state_behind {w : World} {K : PySem.W.Frag} {mg : Str → Option Value} {base : Heap} (T : Txt K w mg) : FnD P w K mg base 4 T.a_state_behind T.d_state_behind ["steps", "state", "at"] m_state_behind :=
  fnD_of T.F_state_behind sc_state_behind fun cdv A outer s H E hr => (dss_cons (ds_set 3 sc_state_behind.nd rfl (by first | exact Or.inl rfl | exact Or.inr rfl) (de_ix ix_seq od_ix (de_var 0) (de_var 2))) (dss_cons (ds_par (i := 4) (j := 5) rfl sc_state_behind.nd rfl rfl (by decide) rfl rfl (da_cons (de_callTyN call_list_of cn_list (by rfl) T.n_list (by decide +kernel) (da_cons (de_ix ix_seq od_ix (de_var 1) de_int) da_nil)) (da_cons (de_callTyN call_list_of cn_list (by rfl) T.n_list (by decide +kernel) (da_cons (de_ix ix_seq od_ix (de_var 1) de_int) da_nil)) da_nil)) rfl) (dss_cons (ds_put (de_var 4) (de_var 2) de_int) (dss_cons (ds_if (dt_tr (de_call (ok_is_reading T) (takes_of rfl rfl rfl rfl) (hr.mono (by decide)) (by rfl) T.g_is_reading T.F_is_reading.kp T.b_is_reading rfl (da_cons (de_fld T.i_Step T.na_Step_instruction (de_var 3)) da_nil) (hfl := (al_cons al_nil)))) (dss_one (ds_put (de_var 4) (de_var 2) (de_call (ok_word_taken T) (takes_of rfl rfl rfl rfl) (hr.mono (by decide)) (by rfl) T.g_word_taken T.F_word_taken.kp T.b_word_taken rfl (da_cons (de_var 0) (da_cons (de_var 1) (da_cons (de_var 3) da_nil))) (hfl := (al_cons (al_cons (al_cons al_nil))))))) (dss_one (ds_if (dt_tr (de_call (ok_is_writing T) (takes_of rfl rfl rfl rfl) (hr.mono (by decide)) (by rfl) T.g_is_writing T.F_is_writing.kp T.b_is_writing rfl (da_cons (de_fld T.i_Step T.na_Step_instruction (de_var 3)) da_nil) (hfl := (al_cons al_nil)))) (dss_one (ds_put (de_var 5) (de_call (ok_cell_of T) (takes_of rfl rfl rfl rfl) (hr.mono (by decide)) (by rfl) T.g_cell_of T.F_cell_of.kp T.b_cell_of rfl (da_cons (de_fld T.i_Step T.na_Step_instruction (de_var 3)) da_nil) (hfl := (al_cons al_nil))) (de_call (ok_word_written T) (takes_of rfl rfl rfl rfl) (hr.mono (by decide)) (by rfl) T.g_word_written T.F_word_written.kp T.b_word_written rfl (da_cons (de_var 3) (da_cons (de_ix ix_seq od_ix (de_var 1) de_int) da_nil)) (hfl := (al_cons (al_cons al_nil)))))) (dss_one (ds_if (dt_tr (de_call (ok_ends_core T) (takes_of rfl rfl rfl rfl) (hr.mono (by decide)) (by rfl) T.g_ends_core T.F_ends_core.kp T.b_ends_core rfl (da_cons (de_var 3) (da_cons (de_ix ix_seq od_ix (de_var 1) de_int) da_nil)) (hfl := (al_cons (al_cons al_nil))))) (dss_one (ds_for (p := (.nm 6)) (passes_of rfl) rfl (di_seq (de_fld T.i_Step T.na_Step_behind (de_var 3))) (dg_nm (i := 6) sc_state_behind.nd rfl (by first | exact Or.inl rfl | exact Or.inr rfl)) (dss_one (ds_put (de_var 4) (de_var 6) (de_glob (v := .int (-1)) (by rfl) T.c_LEFT_OUT.1 T.c_LEFT_OUT.2 (fun _ _ => .int _)))))) dss_nil))))) (dss_one (ds_ret (de_tup (da_cons (de_callTy call_tuple_of cd_tuple (by rfl) T.n_tuple (by decide +kernel) (da_cons (de_var 4) da_nil)) (da_cons (de_callTy call_tuple_of cd_tuple (by rfl) T.n_tuple (by decide +kernel) (da_cons (de_var 5) da_nil)) da_nil)))))))))
theorem ok_can_come {w : World} {K : PySem.W.Frag} {mg : Str → Option Value} {base : Heap} (T : Txt K w mg) : FnD P w K mg base 3 T.a_can_come T.d_can_come ["step", "words"] m_can_come :=
  fnD_of T.F_can_come sc_can_come fun cdv A outer s H E hr => (dss_cons (ds_for (p := (.nm 2)) (passes_of rfl) rfl (di_seq (de_fld T.i_Step T.na_Step_waits (de_var 0))) (dg_nm (i := 2) sc_can_come.nd rfl (by first | exact Or.inl rfl | exact Or.inr rfl)) (dss_one (ds_if (dt_cmp or_is od_is (de_ix ix_seq od_ix (de_var 1) (de_var 2)) de_non) (dss_one (ds_ret de_bl)) dss_nil))) (dss_one (ds_ret (de_or (de_not (de_call (ok_ends_core T) (takes_of rfl rfl rfl rfl) (hr.mono (by decide)) (by rfl) T.g_ends_core T.F_ends_core.kp T.b_ends_core rfl (da_cons (de_var 0) (da_cons (de_var 1) da_nil)) (hfl := (al_cons (al_cons al_nil))))) (de_one (de_callB (cr_all rfl) cd_all (by rfl) T.n_all (by decide +kernel) (da_cons (de_comp (own := [("other", 2)]) (p := (.nm 2)) rfl sc_can_come.nd (di_seq (de_fld T.i_Step T.na_Step_behind (de_var 0))) (blkOk_by (N := N_can_come) (sc := (defScope s_can_come)) (by decide +kernel)) (by decide) (fun _ _ _ _ _ => (dg_nm (i := 2) sc_can_come.nd rfl (by first | exact Or.inl rfl | exact Or.inr rfl))) (fun _ _ _ _ _ => dts_nil) (fun _ _ _ _ _ => (de_cmp or_is od_is (de_ix ix_seq od_ix (de_var 1) (de_var 2)) de_non))) da_nil)))))))
theorem ok_steps_now {w : World} {K : PySem.W.Frag} {mg : Str → Option Value} {base : Heap} (T : Txt K w mg) : FnD P w K mg base 4 T.a_steps_now T.d_steps_now ["steps", "state"] m_steps_now :=
  fnD_of T.F_steps_now sc_steps_now fun cdv A outer s H E hr => (dss_cons (ds_set 2 sc_steps_now.nd rfl (by first | exact Or.inl rfl | exact Or.inr rfl) (de_ix ix_seq od_ix (de_var 1) de_int)) (dss_one (ds_ret (de_comp (own := [("at", 3), ("step", 4)]) (p := (.tp [(.nm 3), (.nm 4)])) rfl sc_steps_now.nd (di_enum (by rfl) T.n_enumerate (da_cons (de_var 0) da_nil)) (blkOk_by (N := N_steps_now) (sc := (defScope s_steps_now)) (by decide +kernel)) (by decide) (fun _ _ _ _ _ => (dg_tp rfl (dgs_cons (dg_nm (i := 3) sc_steps_now.nd rfl (by first | exact Or.inl rfl | exact Or.inr rfl)) (dgs_cons (dg_nm (i := 4) sc_steps_now.nd rfl (by first | exact Or.inl rfl | exact Or.inr rfl)) dgs_nil)))) (fun _ _ _ _ _ => (dts_one (dt_w (dw_and (dt_cmp or_is od_is (de_ix ix_seq od_ix (de_var 2) (de_var 3)) de_non) (dw_and1 (dt_tr (de_call (ok_can_come T) takesF (hr.mono (by decide)) (by rfl) T.g_can_come T.F_can_come.kp T.b_can_come rfl (da_cons (de_var 4) (da_cons (de_var 2) da_nil)) (hfl := (al_cons (al_cons al_nil)))))))))) (fun _ _ _ _ _ => (de_var 3))))))
theorem ok_state_behind_row {w : World} {K : PySem.W.Frag} {mg : Str → Option Value} {base : Heap} (T : Txt K w mg) : FnD P w K mg base 5 T.a_state_behind_row T.d_state_behind_row ["steps", "row"] m_state_behind_row :=
  fnD_of T.F_state_behind_row sc_state_behind_row fun cdv A outer s H E hr => (dss_cons (ds_if (dt_w (dw_or (dt_not (dt_tr (de_callB call_isi cd_isi (by rfl) T.n_isinstance (by decide +kernel) (da_cons (de_var 1) (da_cons (de_type (by rfl) T.n_tuple (by decide +kernel)) da_nil))))) (dw_or1 (dt_cmp op_gt od_gt (de_callB call_len cd_len (by rfl) T.n_len (by decide +kernel) (da_cons (de_var 1) da_nil)) (de_glob (v := .int (10)) (by rfl) T.c_MOST_IN_ALL.1 T.c_MOST_IN_ALL.2 (fun _ _ => .int _)))))) dss_bad dss_nil) (dss_cons (ds_set 2 sc_state_behind_row.nd rfl (by first | exact Or.inl rfl | exact Or.inr rfl) (de_call (ok_first_state T) (takes_of rfl rfl rfl rfl) (hr.mono (by decide)) (by rfl) T.g_first_state T.F_first_state.kp T.b_first_state rfl (da_cons (de_var 0) da_nil) (hfl := (al_cons al_nil)))) (dss_cons (ds_for (p := (.tp [(.nm 3), (.nm 4)])) (passes_of rfl) rfl (di_enum (by rfl) T.n_enumerate (da_cons (de_var 1) da_nil)) (dg_tp rfl (dgs_cons (dg_nm (i := 3) sc_state_behind_row.nd rfl (by first | exact Or.inl rfl | exact Or.inr rfl)) (dgs_cons (dg_nm (i := 4) sc_state_behind_row.nd rfl (by first | exact Or.inl rfl | exact Or.inr rfl)) dgs_nil))) (dss_cons (ds_set 5 sc_state_behind_row.nd rfl (by first | exact Or.inl rfl | exact Or.inr rfl) (de_call (ok_number_of T) (takes_of rfl rfl rfl rfl) (hr.mono (by decide)) (by rfl) T.g_number_of T.F_number_of.kp T.b_number_of rfl (da_cons (de_var 0) (da_cons (de_var 4) da_nil)) (hfl := (al_cons (al_cons al_nil))))) (dss_cons (ds_if (dt_cmp (or_notin (hu65 hr)) (od_in true) (de_var 5) (de_call (ok_steps_now T) (takes_of rfl rfl rfl rfl) (hr.mono (by decide)) (by rfl) T.g_steps_now T.F_steps_now.kp T.b_steps_now rfl (da_cons (de_var 0) (da_cons (de_var 2) da_nil)) (hfl := (al_cons (al_cons al_nil))))) dss_bad dss_nil) (dss_one (ds_set 2 sc_state_behind_row.nd rfl (by first | exact Or.inl rfl | exact Or.inr rfl) (de_call (ok_state_behind T) (takes_of rfl rfl rfl rfl) (hr.mono (by decide)) (by rfl) T.g_state_behind T.F_state_behind.kp T.b_state_behind rfl (da_cons (de_var 0) (da_cons (de_var 2) (da_cons (de_var 5) da_nil))) (hfl := (al_cons (al_cons (al_cons al_nil)))))))))) (dss_one (ds_ret (de_var 2))))))
theorem ok_events_behind {w : World} {K : PySem.W.Frag} {mg : Str → Option Value} {base : Heap} (T : Txt K w mg) (L_steps_on : LawT K mg base "steps_on" s_steps_on T.a_steps_on T.d_steps_on) : FnD P w K mg base 12 T.a_events_behind T.d_events_behind ["design", "program", "row"] m_events_behind :=
  fnD_of T.F_events_behind sc_events_behind fun cdv A outer s H E hr => (dss_cons (ds_set 3 sc_events_behind.nd rfl (by first | exact Or.inl rfl | exact Or.inr rfl) (de_call (ok_checked_steps T L_steps_on) (takes_of rfl rfl rfl rfl) (hr.mono (by decide)) (by rfl) T.g_checked_steps T.F_checked_steps.kp T.b_checked_steps rfl (da_cons (de_var 0) (da_cons (de_var 1) da_nil)) (hfl := (al_cons (al_cons al_nil))))) (dss_cons (ds_set 4 sc_events_behind.nd rfl (by first | exact Or.inl rfl | exact Or.inr rfl) (de_call (ok_state_behind_row T) (takes_of rfl rfl rfl rfl) (hr.mono (by decide)) (by rfl) T.g_state_behind_row T.F_state_behind_row.kp T.b_state_behind_row rfl (da_cons (de_var 3) (da_cons (de_var 2) da_nil)) (hfl := (al_cons (al_cons al_nil))))) (dss_one (ds_ret (de_callTy call_tuple_of cd_tuple (by rfl) T.n_tuple (by decide +kernel) (da_cons (de_comp (own := [("at", 5)]) (p := (.nm 5)) rfl sc_events_behind.nd (di_seq (de_call (ok_steps_now T) (takes_of rfl rfl rfl rfl) (hr.mono (by decide)) (by rfl) T.g_steps_now T.F_steps_now.kp T.b_steps_now rfl (da_cons (de_var 3) (da_cons (de_var 4) da_nil)) (hfl := (al_cons (al_cons al_nil))))) (blkOk_by (N := N_events_behind) (sc := (defScope s_events_behind)) (by decide +kernel)) (by decide) (fun _ _ _ _ _ => (dg_nm (i := 5) sc_events_behind.nd rfl (by first | exact Or.inl rfl | exact Or.inr rfl))) (fun _ _ _ _ _ => dts_nil) (fun _ _ _ _ _ => (de_fld T.i_Step T.na_Step_event (de_ix ix_seq od_ix (de_var 3) (de_var 5))))) da_nil))))))
theorem ok_is_over {w : World} {K : PySem.W.Frag} {mg : Str → Option Value} {base : Heap} (T : Txt K w mg) : FnD P w K mg base 1 T.a_is_over T.d_is_over ["state"] m_is_over :=
  fnD_of T.F_is_over sc_is_over fun cdv A outer s H E hr => (dss_one (ds_ret (de_cmp (or_notin (hu65 hr)) (od_in true) de_non (de_ix ix_seq od_ix (de_var 0) de_int))))
theorem ok_has_ended {w : World} {K : PySem.W.Frag} {mg : Str → Option Value} {base : Heap} (T : Txt K w mg) (L_steps_on : LawT K mg base "steps_on" s_steps_on T.a_steps_on T.d_steps_on) : FnD P w K mg base 12 T.a_has_ended T.d_has_ended ["design", "program", "row"] m_has_ended :=
  fnD_of T.F_has_ended sc_has_ended fun cdv A outer s H E hr => (dss_cons (ds_set 3 sc_has_ended.nd rfl (by first | exact Or.inl rfl | exact Or.inr rfl) (de_call (ok_checked_steps T L_steps_on) (takes_of rfl rfl rfl rfl) (hr.mono (by decide)) (by rfl) T.g_checked_steps T.F_checked_steps.kp T.b_checked_steps rfl (da_cons (de_var 0) (da_cons (de_var 1) da_nil)) (hfl := (al_cons (al_cons al_nil))))) (dss_one (ds_ret (de_call (ok_is_over T) (takes_of rfl rfl rfl rfl) (hr.mono (by decide)) (by rfl) T.g_is_over T.F_is_over.kp T.b_is_over rfl (da_cons (de_call (ok_state_behind_row T) (takes_of rfl rfl rfl rfl) (hr.mono (by decide)) (by rfl) T.g_state_behind_row T.F_state_behind_row.kp T.b_state_behind_row rfl (da_cons (de_var 3) (da_cons (de_var 2) da_nil)) (hfl := (al_cons (al_cons al_nil)))) da_nil) (hfl := (al_cons al_nil))))))
theorem ok_outcome_of {w : World} {K : PySem.W.Frag} {mg : Str → Option Value} {base : Heap} (T : Txt K w mg) : FnD P w K mg base 2 T.a_outcome_of T.d_outcome_of ["steps", "program", "state"] m_outcome_of :=
  fnD_of T.F_outcome_of sc_outcome_of fun cdv A outer s H E hr => (dss_cons (ds_setLc 3 (own := [("_", 6)]) (p := (.nm 6)) rfl sc_outcome_of.nd rfl rfl (sw_true rfl rfl rfl (by decide +kernel)) (di_seq (de_var 1)) (blkOk_by (N := N_outcome_of) (sc := (defScope s_outcome_of)) (by decide +kernel)) (by decide) (fun _ _ _ _ _ => (dg_nm (i := 6) sc_outcome_of.nd rfl (by first | exact Or.inl rfl | exact Or.inr rfl))) (fun _ _ _ _ _ => dts_nil) (fun _ _ _ _ _ => (de_lstM (da_cons de_int (da_cons de_int da_nil))))) (dss_cons (ds_for (p := (.tp [(.nm 4), (.nm 5)])) (passes_of rfl) rfl (di_zipM (by rfl) T.n_zip (da_cons (de_var 0) (da_cons (de_ix ix_seq od_ix (de_var 2) de_int) da_nil))) (dg_tp rfl (dgs_cons (dg_nm (i := 4) sc_outcome_of.nd rfl (by first | exact Or.inl rfl | exact Or.inr rfl)) (dgs_cons (dg_nm (i := 5) sc_outcome_of.nd rfl (by first | exact Or.inl rfl | exact Or.inr rfl)) dgs_nil))) (dss_one (ds_if (dt_w (dw_and (dt_tr (de_call (ok_is_reading T) (takes_of rfl rfl rfl rfl) (hr.mono (by decide)) (by rfl) T.g_is_reading T.F_is_reading.kp T.b_is_reading rfl (da_cons (de_fld T.i_Step T.na_Step_instruction (de_var 4)) da_nil) (hfl := (al_cons al_nil)))) (dw_and1 (dt_cmp (op_neD (hu64 hr)) od_ne (de_var 5) (de_glob (v := .int (-1)) (by rfl) T.c_LEFT_OUT.1 T.c_LEFT_OUT.2 (fun _ _ => .int _)))))) (dss_one (ds_put (de_ix ix_seq od_ix (de_var 3) (de_ix ix_seq od_ix (de_fld T.i_Step T.na_Step_event (de_var 4)) de_int)) (de_ix ix_seq od_ix (de_fld T.i_Step T.na_Step_instruction (de_var 4)) de_int) (de_var 5))) dss_nil))) (dss_one (ds_ret (de_tup (da_cons (de_callTy call_tuple_of cd_tuple (by rfl) T.n_tuple (by decide +kernel) (da_cons (de_comp (own := [("pair", 7)]) (p := (.nm 7)) rfl sc_outcome_of.nd (di_seq (de_var 3)) (blkOk_by (N := N_outcome_of) (sc := (defScope s_outcome_of)) (by decide +kernel)) (by decide) (fun _ _ _ _ _ => (dg_nm (i := 7) sc_outcome_of.nd rfl (by first | exact Or.inl rfl | exact Or.inr rfl))) (fun _ _ _ _ _ => dts_nil) (fun _ _ _ _ _ => (de_callTy call_tuple_of cd_tuple (by rfl) T.n_tuple (by decide +kernel) (da_cons (de_var 7) da_nil)))) da_nil)) (da_cons (de_ix ix_seq od_ix (de_var 2) de_int) da_nil)))))))
theorem ok_told_by {w : World} {K : PySem.W.Frag} {mg : Str → Option Value} {base : Heap} (T : Txt K w mg) (L_steps_on : LawT K mg base "steps_on" s_steps_on T.a_steps_on T.d_steps_on) : FnD P w K mg base 12 T.a_told_by T.d_told_by ["design", "program", "row"] m_told_by :=
  fnD_of T.F_told_by sc_told_by fun cdv A outer s H E hr => (dss_cons (ds_set 3 sc_told_by.nd rfl (by first | exact Or.inl rfl | exact Or.inr rfl) (de_call (ok_checked_steps T L_steps_on) (takes_of rfl rfl rfl rfl) (hr.mono (by decide)) (by rfl) T.g_checked_steps T.F_checked_steps.kp T.b_checked_steps rfl (da_cons (de_var 0) (da_cons (de_var 1) da_nil)) (hfl := (al_cons (al_cons al_nil))))) (dss_cons (ds_set 4 sc_told_by.nd rfl (by first | exact Or.inl rfl | exact Or.inr rfl) (de_call (ok_state_behind_row T) (takes_of rfl rfl rfl rfl) (hr.mono (by decide)) (by rfl) T.g_state_behind_row T.F_state_behind_row.kp T.b_state_behind_row rfl (da_cons (de_var 3) (da_cons (de_var 2) da_nil)) (hfl := (al_cons (al_cons al_nil))))) (dss_cons (ds_if (dt_not (dt_tr (de_call (ok_is_over T) (takes_of rfl rfl rfl rfl) (hr.mono (by decide)) (by rfl) T.g_is_over T.F_is_over.kp T.b_is_over rfl (da_cons (de_var 4) da_nil) (hfl := (al_cons al_nil))))) (dss_one (ds_raise rfl (takes_of rfl rfl rfl rfl) T.x_NotMade (by rfl))) dss_nil) (dss_one (ds_ret (de_call (ok_outcome_of T) (takes_of rfl rfl rfl rfl) (hr.mono (by decide)) (by rfl) T.g_outcome_of T.F_outcome_of.kp T.b_outcome_of rfl (da_cons (de_var 3) (da_cons (de_var 1) (da_cons (de_var 4) da_nil))) (hfl := (al_cons (al_cons (al_cons al_nil))))))))))
end K03

set_option Elab.async false
set_option linter.all false
set_option maxRecDepth 100000
set_option maxHeartbeats 2000000
namespace K03
open PySem PySem.Spec L2 DL
open PyProof.Rows hiding St
open LamX hiding takes0
theorem ok_law {w : World} {K : PySem.W.Frag} {mg : Str → Option Value} {base : Heap} (T : Txt K w mg) (L_law : LawT K mg base "law" s_law T.a_law T.d_law) (L_steps_on : LawT K mg base "steps_on" s_steps_on T.a_steps_on T.d_steps_on) : FnD P w K mg base 15 T.a_law T.d_law ["script"] m_law :=
  fnD_ofC L_law sc_law fun A outer s H E hr => (dss_cons (ds_set 1 sc_law.nd rfl (by first | exact Or.inl rfl | exact Or.inr rfl) (de_lstM (da_cons (de_var 0) (da_cons de_int (da_cons de_int (da_cons de_int da_nil)))))) (dss_cons (ds_pat (p := (.tp [(.nm 2), (.nm 3), (.nm 4)])) (de_tup (da_cons (de_call (ok__law_design T) (takes_of rfl rfl rfl rfl) (hr.mono (by decide)) (by rfl) T.g__law_design T.F__law_design.kp T.b__law_design rfl (da_cons (de_var 1) da_nil) (hfl := (al_cons al_nil))) (da_cons (de_call (ok__law_program T) (takes_of rfl rfl rfl rfl) (hr.mono (by decide)) (by rfl) T.g__law_program T.F__law_program.kp T.b__law_program rfl (da_cons (de_var 1) (da_cons de_int da_nil)) (hfl := (al_cons (al_cons al_nil)))) (da_cons (de_tup da_nil) da_nil)))) (dg_tp rfl (dgs_cons (dg_nm (i := 2) sc_law.nd rfl (by first | exact Or.inl rfl | exact Or.inr rfl)) (dgs_cons (dg_nm (i := 3) sc_law.nd rfl (by first | exact Or.inl rfl | exact Or.inr rfl)) (dgs_cons (dg_nm (i := 4) sc_law.nd rfl (by first | exact Or.inl rfl | exact Or.inr rfl)) dgs_nil))))) (dss_cons (ds_set 5 sc_law.nd rfl (by first | exact Or.inl rfl | exact Or.inr rfl) (de_call (ok__law_begin T) (takes_of rfl rfl rfl rfl) (hr.mono (by decide)) (by rfl) T.g__law_begin T.F__law_begin.kp T.b__law_begin rfl (da_cons (de_var 2) (da_cons (de_var 3) da_nil)) (hfl := (al_cons (al_cons al_nil))))) (dss_cons (ds_for (p := (.nm 6)) (passes_of rfl) rfl (di_range1 (by rfl) T.n_range (da_cons de_int da_nil)) (dg_nm (i := 6) sc_law.nd rfl (by first | exact Or.inl rfl | exact Or.inr rfl)) (dss_cons (ds_set 7 sc_law.nd rfl (by first | exact Or.inl rfl | exact Or.inr rfl) (de_call (ok__law_events T) (takes_of rfl rfl rfl rfl) (hr.mono (by decide)) (by rfl) T.g__law_events T.F__law_events.kp T.b__law_events rfl (da_cons (de_var 5) da_nil) (hfl := (al_cons al_nil)))) (dss_cons (ds_if (dt_not (dt_tr (de_call (ok__law_alike T 5) (takes_of rfl rfl rfl rfl) (hr.mono (by decide)) (by rfl) T.g__law_alike T.F__law_alike.kp T.b__law_alike rfl (da_cons (de_call (ok_events_behind T L_steps_on) (takes_of rfl rfl rfl rfl) (hr.mono (by decide)) (by rfl) T.g_events_behind T.F_events_behind.kp T.b_events_behind rfl (da_cons (de_var 2) (da_cons (de_var 3) (da_cons (de_var 4) da_nil))) (hfl := (al_cons (al_cons (al_cons al_nil))))) (da_cons (de_callTy call_tuple_of cd_tuple (by rfl) T.n_tuple (by decide +kernel) (da_cons (de_var 7) da_nil)) da_nil)) (hfl := (al_cons (al_cons al_nil)))))) (dss_one (ds_ret de_bl)) dss_nil) (dss_cons (ds_if (dt_not (dt_tr (de_call (ok__law_alike T 5) (takes_of rfl rfl rfl rfl) (hr.mono (by decide)) (by rfl) T.g__law_alike T.F__law_alike.kp T.b__law_alike rfl (da_cons (de_call (ok_has_ended T L_steps_on) (takes_of rfl rfl rfl rfl) (hr.mono (by decide)) (by rfl) T.g_has_ended T.F_has_ended.kp T.b_has_ended rfl (da_cons (de_var 2) (da_cons (de_var 3) (da_cons (de_var 4) da_nil))) (hfl := (al_cons (al_cons (al_cons al_nil))))) (da_cons (de_call (ok__law_over T) (takes_of rfl rfl rfl rfl) (hr.mono (by decide)) (by rfl) T.g__law_over T.F__law_over.kp T.b__law_over rfl (da_cons (de_var 5) da_nil) (hfl := (al_cons al_nil))) da_nil)) (hfl := (al_cons (al_cons al_nil)))))) (dss_one (ds_ret de_bl)) dss_nil) (dss_cons (ds_if (dt_w (dw_and (dt_tr (de_call (ok__law_over T) (takes_of rfl rfl rfl rfl) (hr.mono (by decide)) (by rfl) T.g__law_over T.F__law_over.kp T.b__law_over rfl (da_cons (de_var 5) da_nil) (hfl := (al_cons al_nil)))) (dw_and1 (dt_w (dw_or (dt_cmp (op_neD (hu64 hr)) od_ne (de_var 7) (de_lst da_nil)) (dw_or1 (dt_not (dt_tr (de_call (ok__law_alike T 5) (takes_of rfl rfl rfl rfl) (hr.mono (by decide)) (by rfl) T.g__law_alike T.F__law_alike.kp T.b__law_alike rfl (da_cons (de_call (ok_told_by T L_steps_on) (takes_of rfl rfl rfl rfl) (hr.mono (by decide)) (by rfl) T.g_told_by T.F_told_by.kp T.b_told_by rfl (da_cons (de_var 2) (da_cons (de_var 3) (da_cons (de_var 4) da_nil))) (hfl := (al_cons (al_cons (al_cons al_nil))))) (da_cons (de_call (ok__law_outcome T) (takes_of rfl rfl rfl rfl) (hr.mono (by decide)) (by rfl) T.g__law_outcome T.F__law_outcome.kp T.b__law_outcome rfl (da_cons (de_var 5) da_nil) (hfl := (al_cons al_nil))) da_nil)) (hfl := (al_cons (al_cons al_nil)))))))))))) (dss_one (ds_ret de_bl)) dss_nil) (dss_cons (ds_if (dt_w (dw_and (dt_not (dt_tr (de_call (ok__law_over T) (takes_of rfl rfl rfl rfl) (hr.mono (by decide)) (by rfl) T.g__law_over T.F__law_over.kp T.b__law_over rfl (da_cons (de_var 5) da_nil) (hfl := (al_cons al_nil))))) (dw_and1 (dt_not (dt_tr (de_wrong (k := 12) (Ng := N__law_not_made) (R := wr_R T) (z := .bl false) (tw := wr_tab) (dz := .bl false) T.F__law_not_made T.b__law_not_made sc__law_not_made rfl (.inl rfl) (by rfl) T.g__law_not_made (fun cdv => gives_w (base := base) T _ rfl rfl cdv) L_law.tb rfl rfl (hr.mono (by decide)) (lamS_by (sc := defScope s_law) (by decide +kernel)) rfl (fun _ _ _ _ _ => rfl) (wr_ok T) (fun _ _ _ => .bl _) (by rfl) (fun _ _ _ _ _ _ _ hr => (de_call (ok_told_by T L_steps_on) (takes_of rfl rfl rfl rfl) (hr.mono (by decide)) (by rfl) T.g_told_by T.F_told_by.kp T.b_told_by rfl (da_cons (de_var 2) (da_cons (de_var 3) (da_cons (de_var 4) da_nil))) (hfl := (al_cons (al_cons (al_cons al_nil)))))))))))) (dss_one (ds_ret de_bl)) dss_nil) (dss_one (ds_if (dt_cmp (op_neD (hu64 hr)) od_ne (de_var 7) (de_lst da_nil)) (dss_cons (ds_set 8 sc_law.nd rfl (by first | exact Or.inl rfl | exact Or.inr rfl) (de_call (ok__law_pick T) (takes_of rfl rfl rfl rfl) (hr.mono (by decide)) (by rfl) T.g__law_pick T.F__law_pick.kp T.b__law_pick rfl (da_cons (de_var 1) (da_cons (de_var 7) da_nil)) (hfl := (al_cons (al_cons al_nil))))) (dss_cons (ds_expr (de_call (ok__law_do T) (takes_of rfl rfl rfl rfl) (hr.mono (by decide)) (by rfl) T.g__law_do T.F__law_do.kp T.b__law_do rfl (da_cons (de_var 5) (da_cons (de_var 8) da_nil)) (hfl := (al_cons (al_cons al_nil))))) (dss_one (ds_set 4 sc_law.nd rfl (by first | exact Or.inl rfl | exact Or.inr rfl) (de_op or_add od_add (de_var 4) (de_tup (da_cons (de_var 8) da_nil))))))) dss_nil)))))))) (dss_one (ds_ret de_bl))))))
end K03

set_option Elab.async false
set_option linter.all false
set_option maxRecDepth 100000
set_option maxHeartbeats 4000000
namespace K03
open PySem PySem.Spec L2 DL CM
open PyProof.Rows hiding St
section
variable {ns : List Int} {sc : D} (hS : Scr ns sc) {n : Nat}
include hS
theorem taken_go (many : Int) (h : 0 < many) (h2 : many < 1000) (p q c : Int) (st : Sto) (hr : st[n]? = some (rowS sc p q c)) (hp : 0 ≤ p) :
    ∃ f p' q' c', m__law_taken [.ref n, .int many] st = .ok (.int f) (st.set n (rowS sc p' q' c')) ∧ 0 ≤ f ∧ f < many ∧ 0 ≤ p' := by
  obtain ⟨hI, hL⟩ := hS
  have hn : n < st.length := (List.getElem?_eq_some_iff.mp hr).1
  have hm : many < 1073741824 := by omega
  have r1 : ∀ x : Int, (st.set n (.lst [sc, .int p, .int q, .int x]))[n]? = some (.lst [sc, .int p, .int q, .int x]) := fun x => get_set hr
  have r2 : ∀ x : Int, (st.set n (.lst [sc, .int x, .int q, .int c]))[n]? = some (.lst [sc, .int x, .int q, .int c]) := fun x => get_set hr
  have r3 : ∀ x y : Int, (st.set n (.lst [sc, .int x, .int y, .int c]))[n]? = some (.lst [sc, .int x, .int y, .int c]) := fun x y => get_set hr
  by_cases hc : 0 < c
  · refine ⟨c % many, p, q, c / many, ?_, Int.emod_nonneg _ (by omega), Int.emod_lt_of_pos _ h, hp⟩
    simp [m__law_taken, g__law_taken, ix_at hr, put_lit hr, hc, h, hm]
  · by_cases hl : ns.length < p + 1
    · refine ⟨((q * 48271 + 11) % 2147483647 / 7) % many, p + 1, (q * 48271 + 11) % 2147483647, c, ?_, Int.emod_nonneg _ (by omega), Int.emod_lt_of_pos _ h, by omega⟩
      simp [m__law_taken, g__law_taken, ix_at hr, put_lit hr, ix_at (r2 _), put_lit (r2 _), ix_at (r3 _ _), put_lit (r3 _ _), hc, h, hl, hI, hL]
    · have hi : p.toNat < ns.length := by omega
      have hx : atI (ns.map D.int) p = some (.int ns[p.toNat]) := atI_nat' hp (by simp [hi])
      generalize ns[p.toNat] = x at hx
      by_cases hb : 1000000000000000000 ≤ x
      · refine ⟨x % many, p + 1, (q * 48271 + x + 11) % 2147483647, x / many, ?_, Int.emod_nonneg _ (by omega), Int.emod_lt_of_pos _ h, by omega⟩
        simp [m__law_taken, g__law_taken, ix_at hr, put_lit hr, ix_at (r2 _), put_lit (r2 _), ix_at (r3 _ _), put_lit (r3 _ _), hc, h, hl, hI, hL, hx, hm, hb]
      · refine ⟨x % many, p + 1, (q * 48271 + x + 11) % 2147483647, c, ?_, Int.emod_nonneg _ (by omega), Int.emod_lt_of_pos _ h, by omega⟩
        simp [m__law_taken, g__law_taken, ix_at hr, put_lit hr, ix_at (r2 _), put_lit (r2 _), ix_at (r3 _ _), put_lit (r3 _ _), hc, h, hl, hI, hL, hx, hm, hb]
/-- what a draw leaves: another row -/
abbrev Row (n : Nat) (sc : D) (st st' : Sto) : Prop := ∃ p q c, st' = st.set n (rowS sc p q c) ∧ 0 ≤ p
theorem Row.trans {a b d : Sto} (h : Row n sc a b) (h' : Row n sc b d) : Row n sc a d := by
  obtain ⟨p, q, c, rfl, hp⟩ := h
  obtain ⟨p', q', c', rfl, hp'⟩ := h'
  exact ⟨p', q', c', by rw [List.set_set], hp'⟩
/-- a row stands at n -/
abbrev HasRow (n : Nat) (sc : D) (st : Sto) : Prop := ∃ p q c, st[n]? = some (rowS sc p q c) ∧ 0 ≤ p
theorem HasRow.row {st st' : Sto} (h : HasRow n sc st) (r : Row n sc st st') : HasRow n sc st' := by
  obtain ⟨p, q, c, h, _⟩ := h
  obtain ⟨p', q', c', rfl, hp'⟩ := r
  exact ⟨p', q', c', get_set h, hp'⟩
theorem HasRow.self {st : Sto} (h : HasRow n sc st) : Row n sc st st := by
  obtain ⟨p, q, c, h, hp⟩ := h
  refine ⟨p, q, c, ?_, hp⟩
  obtain ⟨hl, e⟩ := List.getElem?_eq_some_iff.mp h
  rw [← e, List.set_getElem_self]
theorem draw (many : Int) (h : 0 < many) (h2 : many < 1000) {st : Sto} (hr : HasRow n sc st) :
    ∃ f st', m__law_taken [.ref n, .int many] st = .ok (.int f) st' ∧ 0 ≤ f ∧ f < many ∧ Row n sc st st' ∧ HasRow n sc st' := by
  obtain ⟨p, q, c, hr', hp⟩ := id hr
  obtain ⟨f, p', q', c', e, h0, h1, hp'⟩ := taken_go hS many h h2 p q c st hr' hp
  have r : Row n sc st (st.set n (rowS sc p' q' c')) := ⟨p', q', c', rfl, hp'⟩
  exact ⟨f, _, e, h0, h1, r, HasRow.row hS hr r⟩
--PICK
theorem pick_go (l : List D) (h : 0 < l.length) (h2 : l.length < 1000) {st : Sto} (hr : HasRow n sc st) :
    ∃ x st', m__law_pick [.ref n, .lst l] st = .ok x st' ∧ x ∈ l ∧ Row n sc st st' ∧ HasRow n sc st' := by
  obtain ⟨f, st', e, h0, h1, r, hr'⟩ := draw hS l.length (by omega) (by omega) hr
  have hi : f.toNat < l.length := by omega
  have hx : atI l f = some l[f.toNat] := atI_nat' h0 (by simp [hi])
  refine ⟨l[f.toNat], st', ?_, List.getElem_mem hi, r, hr'⟩
  simp [m__law_pick, g__law_pick, e, hx]
--INS
theorem ins_go {st : Sto} (hr : HasRow n sc st) :
    ∃ i st', m__law_instruction [.ref n] st = .ok (Ins.enc i) st' ∧ i.drawn ∧ Row n sc st st' ∧ HasRow n sc st' := by
  obtain ⟨x, s1, e, hx, r1, hr1⟩ := pick_go hS [.str "read", .str "read", .str "read", .str "write", .str "write", .str "write", .str "copy", .str "fence", .str "guard"] (by decide) (by decide) hr
  obtain ⟨a, s2, e2, a0, a1, r2, hr2⟩ := draw hS 2 (by decide) (by decide) hr1
  obtain ⟨b, s3, e3, b0, b1, r3, hr3⟩ := draw hS 2 (by decide) (by decide) hr2
  obtain ⟨d, s4, e4, d0, d1, r4, hr4⟩ := draw hS 3 (by decide) (by decide) hr2
  have R3 := Row.trans hS (Row.trans hS r1 r2) r3
  have R4 := Row.trans hS (Row.trans hS r1 r2) r4
  simp only [List.mem_cons, List.not_mem_nil, or_false] at hx
  rcases hx with rfl | rfl | rfl | rfl | rfl | rfl | rfl | rfl | rfl
  · exact ⟨.rd a b, s3, by simp [m__law_instruction, g__law_instruction, e, e2, e3, Ins.enc], ⟨by omega, by omega⟩, R3, hr3⟩
  · exact ⟨.rd a b, s3, by simp [m__law_instruction, g__law_instruction, e, e2, e3, Ins.enc], ⟨by omega, by omega⟩, R3, hr3⟩
  · exact ⟨.rd a b, s3, by simp [m__law_instruction, g__law_instruction, e, e2, e3, Ins.enc], ⟨by omega, by omega⟩, R3, hr3⟩
  · exact ⟨.wr a (1 + d), s4, by simp [m__law_instruction, g__law_instruction, e, e2, e4, Ins.enc], ⟨by omega, by omega⟩, R4, hr4⟩
  · exact ⟨.wr a (1 + d), s4, by simp [m__law_instruction, g__law_instruction, e, e2, e4, Ins.enc], ⟨by omega, by omega⟩, R4, hr4⟩
  · exact ⟨.wr a (1 + d), s4, by simp [m__law_instruction, g__law_instruction, e, e2, e4, Ins.enc], ⟨by omega, by omega⟩, R4, hr4⟩
  · exact ⟨.cp a b, s3, by simp [m__law_instruction, g__law_instruction, e, e2, e3, Ins.enc], ⟨by omega, by omega⟩, R3, hr3⟩
  · exact ⟨.fn, s1, by simp [m__law_instruction, g__law_instruction, e, Ins.enc], trivial, r1, hr1⟩
  · exact ⟨.gd a b, s3, by simp [m__law_instruction, g__law_instruction, e, e2, e3, Ins.enc], ⟨by omega, by omega⟩, R3, hr3⟩
--DESIGN
theorem design_comp : ∀ (ws : List Str) {st : Sto}, HasRow n sc st →
    ∃ (sub : List Str) (st' : Sto), compGo [some (.ref n), none] (.nm 1) (gBl (gOp mEq (gCall m__law_taken (aCons (gVar 0) (aCons (gC (.int 2)) aNil))) (gC (.int 0)))) (gVar 1) (ws.map D.str) st = .ok (sub.map D.str) st' ∧ sub.Sublist ws ∧ Row n sc st st' ∧ HasRow n sc st'
  | [], st, hr => ⟨[], st, rfl, .slnil, HasRow.self hS hr, hr⟩
  | w :: ws, st, hr => by
    obtain ⟨f, s1, e, f0, f1, r1, hr1⟩ := draw hS 2 (by decide) (by decide) hr
    obtain ⟨sub, s2, e2, hs, r2, hr2⟩ := design_comp ws hr1
    by_cases hf : f = 0
    · exact ⟨w :: sub, s2, by simp [k_nm, e, e2, hf], hs.cons_cons _, Row.trans hS r1 r2, hr2⟩
    · exact ⟨sub, s2, by simp [k_nm, e, e2, hf], hs.cons _, Row.trans hS r1 r2, hr2⟩
theorem design_go {st : Sto} (hr : HasRow n sc st) :
    ∃ (sub : List Str) (st' : Sto), m__law_design [.ref n] st = .ok (.tup (sub.map D.str)) st' ∧ sub.Sublist words8 ∧ Row n sc st st' ∧ HasRow n sc st' := by
  obtain ⟨sub, s1, e, hs, r1, hr1⟩ := design_comp hS words8 hr
  refine ⟨sub, s1, ?_, hs, r1, hr1⟩
  simp only [List.map_cons, List.map_nil] at e
  simp [m__law_design, g__law_design, e]
--PROGRAM
theorem core_comp : ∀ (k : List D) (ρ : DL.Env) (h6 : ρ.length = 7) (h0 : ρ[0]? = some (some (.ref n))) {st : Sto}, HasRow n sc st →
    ∃ (c : List Ins) (st' : Sto), compGo ρ (.nm 6) gYes (gCall m__law_instruction (aCons (gVar 0) aNil)) k st = .ok (c.map Ins.enc) st' ∧ c.length = k.length ∧ (∀ i ∈ c, i.drawn) ∧ Row n sc st st' ∧ HasRow n sc st'
  | [], ρ, h6, h0, st, hr => ⟨[], st, rfl, rfl, by simp, HasRow.self hS hr, hr⟩
  | d :: k, ρ, h6, h0, st, hr => by
    obtain ⟨i, s1, e, hi, r1, hr1⟩ := ins_go hS hr
    obtain ⟨c, s2, e2, hl, hc, r2, hr2⟩ := core_comp k ρ h6 h0 hr1
    have hv : ∀ st, gVar 0 (ρ.set 6 (some d)) st = .ok (.ref n) st := fun st => by
      unfold gVar
      rw [List.getElem?_set_ne (by decide), h0]
    refine ⟨i :: c, s2, by simp [k_nm, hv, e, e2], by simp [hl], fun x hx => ?_, Row.trans hS r1 r2, hr2⟩
    rcases List.mem_cons.mp hx with rfl | hx
    · exact hi
    · exact hc x hx
abbrev bodyP : G Fl := (sSeq (sSet 5 (gCB mMin2 (aCons (gVar 2) (aCons (gCall m__law_taken (aCons (gVar 0) (aCons (gC (.int 5)) aNil))) aNil)))) (sSeq (sSet 3 (gOp mAdd (gVar 3) (gTupD (aCons (gCB mTuple (aCons (gComp [6] (gRange1 (aCons (gVar 5) aNil)) (.nm 6) gYes (gCall m__law_instruction (aCons (gVar 0) aNil))) aNil)) aNil)))) (sSet 2 (gOp mSub (gVar 2) (gVar 5)))))
theorem prog_loop : ∀ (k : List D) (most : D) (L : Int) (p0 : List (List Ins)) (t m u : Option D) {st : Sto}, 0 ≤ L → L ≤ 1000 → p0.length + k.length ≤ 10 → HasRow n sc st →
    ∃ (q : List (List Ins)) (st' : Sto) (L' : Int) (t' m' u' : Option D), forGo (.nm 4) bodyP k [some (.ref n), some most, some (.int L), some (encP p0), t, m, u] st = .ok (.nx [some (.ref n), some most, some (.int L'), some (encP (p0 ++ q)), t', m', u']) st' ∧
      q.length = k.length ∧ (∀ c ∈ q, c.length ≤ 4 ∧ ∀ i ∈ c, i.drawn) ∧ 0 ≤ L' ∧ L = L' + ((q.map List.length).sum : Nat) ∧ Row n sc st st' ∧ HasRow n sc st'
  | [], most, L, p0, t, m, u, st, h0, _, _, hr => ⟨[], st, L, t, m, u, by simp [forGo], rfl, by simp, h0, by simp, HasRow.self hS hr, hr⟩
  | d :: k, most, L, p0, t, m, u, st, h0, hL, hl, hr => by
    obtain ⟨f, s1, e, f0, f1, r1, hr1⟩ := draw hS 5 (by decide) (by decide) hr
    have hmin : ∃ g : Nat, (if f < L then f else L) = (g : Int) ∧ (g : Int) ≤ L ∧ g ≤ 4 := by
      by_cases hc : f < L
      · exact ⟨f.toNat, by rw [if_pos hc]; omega, by omega, by omega⟩
      · exact ⟨L.toNat, by rw [if_neg hc]; omega, by omega, by omega⟩
    obtain ⟨g, eg, g0, g1⟩ := hmin
    obtain ⟨c, s2, e2, hcl, hcd, r2, hr2⟩ := core_comp hS (intsD 0 g) [some (.ref n), some most, some (.int L), some (encP p0), some d, some (.int (g : Int)), none] rfl rfl hr1
    obtain ⟨q, s3, L', t', m', u', e3, q1, q2, q3, q4, r3, hr3⟩ := prog_loop k most (L - (g : Int)) (p0 ++ [c]) (some d) (some (.int (g : Int))) u (by omega) (by omega) (by simp at hl ⊢; omega) hr2
    have hcl' : c.length = g := by rw [hcl]; simp [intsD]
    refine ⟨c :: q, s3, L', t', m', u', ?_, by simp [q1], fun x hx => ?_, q3, ?_, Row.trans hS r1 (Row.trans hS r2 r3), hr3⟩
    · have hg : (g : Int) ≤ 1000000 ∧ (-1000000 : Int) ≤ (g : Int) := by omega
      have hz : p0.length + 1 ≤ LIM := by
        show p0.length + 1 ≤ 1000000
        simp at hl; omega
      have eP : encP (p0 ++ [c]) = .tup (p0.map encC ++ [.tup (c.map Ins.enc)]) := by simp [encP, encC]
      rw [eP] at e3
      simp only [List.append_assoc, List.singleton_append] at e3
      simp only [encP] at e2 e3 ⊢
      have e4 : (p0 ++ c :: q).map encC = p0.map encC ++ encC c :: q.map encC := by simp
      rw [e4] at e3 ⊢
      simp [forGo, Pat.set, e, eg, hg, e2, hz, e3]
    · rcases List.mem_cons.mp hx with rfl | hx
      · exact ⟨by omega, hcd⟩
      · exact q2 x hx
    · simp only [List.map_cons, List.sum_cons, hcl']
      omega
/-- a program as it is drawn -/
structure PDr (most : Nat) (p : List (List Ins)) : Prop where
  n1 : 1 ≤ p.length
  n3 : p.length ≤ 3
  c4 : ∀ c ∈ p, c.length ≤ 4
  ins : ∀ c ∈ p, ∀ i ∈ c, i.drawn
  all : (p.map List.length).sum ≤ most
omit hS in
theorem PDr.ok {most : Nat} {p : List (List Ins)} (h : PDr most p) (hm : most ≤ 10) : POk p :=
  ⟨fun c hc i hi => (h.ins c hc i hi).ok, h.n1, h.n3, fun c hc => by have := h.c4 c hc; omega, by have := h.all; omega⟩
theorem program_go (most : Nat) (hm : most ≤ 10) {st : Sto} (hr : HasRow n sc st) :
    ∃ (p : List (List Ins)) (st' : Sto), m__law_program [.ref n, .int (most : Int)] st = .ok (encP p) st' ∧ PDr most p ∧ Row n sc st st' ∧ HasRow n sc st' := by
  obtain ⟨x, s1, e1, hx, r1, hr1⟩ := pick_go hS [.int 0, .int 1, .int 1, .int 1, .int 2] (by decide) (by decide) hr
  have hk : ∃ k : Nat, x = .int (k : Int) ∧ k ≤ 2 := by
    simp only [List.mem_cons, List.not_mem_nil, or_false] at hx
    rcases hx with rfl | rfl | rfl | rfl | rfl
    · exact ⟨0, rfl, by decide⟩
    · exact ⟨1, rfl, by decide⟩
    · exact ⟨1, rfl, by decide⟩
    · exact ⟨1, rfl, by decide⟩
    · exact ⟨2, rfl, by decide⟩
  obtain ⟨k, rfl, hk⟩ := hk
  have hkl : (intsD 0 (k + 1)).length = k + 1 := by simp [intsD]
  obtain ⟨q, s2, L', t', m', u', e2, q1, q2, q3, q4, r2, hr2⟩ := prog_loop hS (intsD 0 (k + 1)) (.int (most : Int)) (most : Int) [] none none none (by omega) (by omega) (by rw [hkl]; simp; omega) hr1
  refine ⟨q, s2, ?_, ⟨by omega, by omega, fun c hc => (q2 c hc).1, fun c hc => (q2 c hc).2, by omega⟩, Row.trans hS r1 r2, hr2⟩
  have h1 : (1 : Int) + k ≤ 1000000 ∧ (-1000000 : Int) ≤ 1 + k := by omega
  have h2 : ((1 : Int) + k).toNat = k + 1 := by omega
  simp only [encP, List.map_nil] at e2
  simp [m__law_program, g__law_program, e1, h1, h2, e2, encP]
end
end K03

set_option Elab.async false
set_option linter.all false
set_option maxRecDepth 100000
set_option maxHeartbeats 4000000
namespace K03
open PySem PySem.Spec L2 DL CM
open PyProof.Rows hiding St
theorem alike_comp {rec : List D → Sto → Out D} {ρ : DL.Env} (hl : ρ.length = 3) {d e : D} (h0 : ρ[0]? = some (some d)) (h1 : ρ[1]? = some (some e)) {l : List D} (st : Sto) (hd : ∀ k : Nat, k < l.length → mIx d (.int (k : Int)) st = l[k]?) (he : ∀ k : Nat, k < l.length → mIx e (.int (k : Int)) st = l[k]?) (h : ∀ x ∈ l, rec [x, x] st = .ok (.bl true) st) :
    ∀ ks : List Nat, (∀ k ∈ ks, k < l.length) → compGo ρ (.nm 2) (gTNot (gTr (gCall rec (aCons (gOp mIx (gVar 0) (gVar 2)) (aCons (gOp mIx (gVar 1) (gVar 2)) aNil))))) (gVar 2) (ks.map fun j : Nat => D.int (j : Int)) st = .ok [] st
  | [], _ => rfl
  | k :: ks, hk => by
    have ih := alike_comp hl h0 h1 st hd he h ks fun j hj => hk j (List.mem_cons_of_mem _ hj)
    have hk' := hk k List.mem_cons_self
    have v0 : ∀ x st, gVar 0 (ρ.set 2 x) st = .ok d st := fun x st => gv (by rw [List.getElem?_set_ne (by decide), h0])
    have v1 : ∀ x st, gVar 1 (ρ.set 2 x) st = .ok e st := fun x st => gv (by rw [List.getElem?_set_ne (by decide), h1])
    have v2 : ∀ x st, gVar 2 (ρ.set 2 (some x)) st = .ok x st := fun x st => gv (by rw [List.getElem?_set_self (by omega)])
    have hx := h l[k] (List.getElem_mem hk')
    simp [k_nm, v0, v1, v2, hd k hk', he k hk', List.getElem?_eq_getElem hk', hx, ih]
theorem alike_refl : ∀ (n : Nat) (d : D) (st : Sto), alk n d = true → m__law_alike n [d, d] st = .ok (.bl true) st
  | 0, _, _, h => by simp [alk] at h
  | n + 1, .non, st, _ => by simp [m__law_alike, g__law_alike, isiB, isiAny]
  | n + 1, .bl _, st, _ => by simp [m__law_alike, g__law_alike, isiB, isiAny]
  | n + 1, .int _, st, _ => by simp [m__law_alike, g__law_alike, isiB, isiAny]
  | n + 1, .str x, st, h => by
    simp only [alk] at h
    simp [m__law_alike, g__law_alike, isiB, isiAny, okStr h]
  | n + 1, .tup l, st, h => by
    simp only [alk, Bool.and_eq_true, List.all_eq_true, decide_eq_true_eq] at h
    have e := alike_comp (rec := m__law_alike n) (ρ := [some (.tup l), some (.tup l), none]) rfl rfl rfl (l := l) st (fun k hk => by show atI l _ = _; rw [atI_mem hk, List.getElem?_eq_getElem hk]) (fun k hk => by show atI l _ = _; rw [atI_mem hk, List.getElem?_eq_getElem hk])
      (fun x hx => alike_refl n x st (h.1 x hx)) (List.range l.length) fun k hk => List.mem_range.mp hk
    rw [← CM.ints_map] at e
    have h1 : (l.length : Int) ≤ 1000000 ∧ (-1000000 : Int) ≤ l.length := by omega
    simp [m__law_alike, g__law_alike, isiB, isiAny, h1, e]
  | n + 1, .lst l, st, h => by
    simp only [alk, Bool.and_eq_true, List.all_eq_true, decide_eq_true_eq] at h
    have e := alike_comp (rec := m__law_alike n) (ρ := [some (.lst l), some (.lst l), none]) rfl rfl rfl (l := l) st (fun k hk => by show atI l _ = _; rw [atI_mem hk, List.getElem?_eq_getElem hk]) (fun k hk => by show atI l _ = _; rw [atI_mem hk, List.getElem?_eq_getElem hk])
      (fun x hx => alike_refl n x st (h.1 x hx)) (List.range l.length) fun k hk => List.mem_range.mp hk
    rw [← CM.ints_map] at e
    have h1 : (l.length : Int) ≤ 1000000 ∧ (-1000000 : Int) ≤ l.length := by omega
    simp [m__law_alike, g__law_alike, isiB, isiAny, h1, e]
  | n + 1, .ro _, _, h => by simp [alk] at h
  | n + 1, .ref _, _, h => by simp [alk] at h
  | n + 1, .raw _, _, h => by simp [alk] at h
end K03

set_option Elab.async false
set_option linter.all false
set_option maxRecDepth 100000
set_option maxHeartbeats 4000000
namespace K03
open PySem PySem.Spec L2 DL CM
open PyProof.Rows hiding St
theorem number_go (v g : Int) (st : Sto) : m_is_number [.int v, .int g] st = .ok (.bl (decide (0 ≤ v ∧ v ≤ g))) st := by
  by_cases h : 0 ≤ v
  · simp [m_is_number, g_is_number, isiB, h]
  · simp [m_is_number, g_is_number, isiB, h]
theorem instr_go (i : Ins) (st : Sto) (h : i.ok) : m_is_instruction [i.enc] st = .ok (.bl true) st := by
  cases i <;> simp [Ins.ok] at h <;> simp [Ins.enc, m_is_instruction, g_is_instruction, isiB, t_GREATEST, List.lookup, k_t2, number_go]
  all_goals omega
theorem core_all (ρ : DL.Env) (hl : 1 < ρ.length) (st : Sto) : ∀ c : List Ins, (∀ i ∈ c, i.ok) → compGo ρ (.nm 1) gYes (gCall m_is_instruction (aCons (gVar 1) aNil)) (c.map Ins.enc) st = .ok (c.map fun _ => D.bl true) st
  | [], _ => rfl
  | i :: c, h => by
    have ih := core_all ρ hl st c fun x hx => h x (List.mem_cons_of_mem _ hx)
    have hv : ∀ st, gVar 1 (ρ.set 1 (some i.enc)) st = .ok i.enc st := fun st => gv (by rw [List.getElem?_set_self hl])
    simp [k_nm, hv, instr_go i st (h i List.mem_cons_self), ih]
theorem is_core_go {c : List Ins} (hc : ∀ i ∈ c, i.ok) (h5 : c.length ≤ 5) (st : Sto) : m_is_core [encC c] st = .ok (.bl true) st := by
  have e := core_all [some (.tup (c.map Ins.enc)), none] (by simp) st c hc
  have h : ¬ (5 : Int) < c.length := by omega
  have hb := bls_true c
  have ha : (List.map (fun _ => true) c).all id = true := by simp
  simp [encC, m_is_core, g_is_core, isiB, h, e, hb, -List.map_const']
--PROGRAM
abbrev bodyK : G Fl := (sSeq (sIf (gTOr (gTNot (gTr (gCall m_is_core (aCons (gVar 3) aNil)))) (gBl (gOp mGt (gOp mAdd (gVar 1) (gCB mLen (aCons (gVar 3) aNil))) (gC (.int 10))))) sBad sNext) (sAug mIAdd 1 (gCB mLen (aCons (gVar 3) aNil))))
theorem chk_loop (v : D) (st : Sto) : ∀ (p : List (List Ins)) (k : Nat) (t : Int) (x y : Option D), (∀ c ∈ p, ∀ i ∈ c, i.ok) → (∀ c ∈ p, c.length ≤ 5) → t + ((p.map List.length).sum : Nat) ≤ 10 →
    ∃ t' x' y', forGo (.tp [.nm 2, .nm 3]) bodyK (enumD k (p.map encC)) [some v, some (.int t), x, y] st = .ok (.nx [some v, some (.int t'), x', y']) st
  | [], k, t, x, y, _, _, _ => ⟨t, x, y, by simp [enumD, forGo]⟩
  | c :: p, k, t, x, y, h1, h2, h3 => by
    simp only [List.map_cons, List.sum_cons] at h3
    obtain ⟨t', x', y', e⟩ := chk_loop v st p (k + 1) (t + c.length) (some (.int (k : Int))) (some (encC c)) (fun d hd => h1 d (List.mem_cons_of_mem _ hd)) (fun d hd => h2 d (List.mem_cons_of_mem _ hd)) (by omega)
    refine ⟨t', x', y', ?_⟩
    have hg : ¬ (10 : Int) < t + c.length := by omega
    have hl : mLen [encC c] st = some (.int (c.length : Int)) := by simp [encC]
    have hi := is_core_go (h1 c List.mem_cons_self) (h2 c List.mem_cons_self) st
    simp [enumD, forGo, Pat.set, Pats.set, hi, hl, hg, e]
theorem check_program_go {p : List (List Ins)} (h : POk p) (st : Sto) : m_check_program [encP p] st = .ok .non st := by
  obtain ⟨t', x', y', e⟩ := chk_loop (encP p) st p 0 0 none none h.ins h.c5 (by have := h.all; omega)
  have h1 : (1 : Int) ≤ p.length ∧ (p.length : Int) ≤ 3 := by have := h.n1; have := h.n3; omega
  have h1n : 1 ≤ p.length := h.n1
  have h3n : p.length ≤ 3 := h.n3
  simp only [encP] at e
  simp [encP, m_check_program, g_check_program, isiB, h1, h1n, h3n, e]
--DESIGN
theorem filt_go (l : List D) (hl : okD (.tup l) = true) (st : Sto) : ∀ ws : List Str, (∀ w ∈ ws, PyData.strOk w = true) →
    compGo [some (.tup l), none] (.nm 1) (gBl (gOp (mIn false) (gVar 1) (gVar 0))) (gVar 1) (ws.map D.str) st = .ok ((ws.filter fun w => l.any fun z => eqD z (.str w)).map D.str) st
  | [], _ => rfl
  | w :: ws, h => by
    have ih := filt_go l hl st ws fun x hx => h x (List.mem_cons_of_mem _ hx)
    have hw : okD (.str w) = true := okStr (h w List.mem_cons_self)
    cases e : l.any fun z => eqD z (.str w) <;> simp [k_nm, in_tup, hw, ih, e, -ok_tup, hl]
theorem is_design_tup (l : List D) (hl : okD (.tup l) = true) (st : Sto) : m_is_design [.tup l] st = .ok (.bl (eqD (.tup l) (.tup ((words8.filter fun w => l.any fun z => eqD z (.str w)).map D.str)))) st := by
  have e := filt_go l hl st words8 words_ok
  have ho : okD (.tup ((words8.filter fun w => l.any fun z => eqD z (.str w)).map D.str)) = true := by
    rw [ok_tup]
    exact okB_strs fun s hs => words_ok s ((List.mem_filter.mp hs).1)
  simp only [List.map_cons, List.map_nil] at e
  simp [m_is_design, g_is_design, isiB, c_WORDS, e, -ok_tup, hl, ho, -q_tup]
theorem is_design_strs (ss : List Str) (hs : ∀ s ∈ ss, PyData.strOk s = true) (st : Sto) : m_is_design [.tup (ss.map D.str)] st = .ok (.bl (decide (ss = words8.filter fun w => decide (w ∈ ss)))) st := by
  rw [is_design_tup _ (by rw [ok_tup]; exact okB_strs hs)]
  simp only [any_strs, q_tup, qs_strs]
theorem is_design_go {sub : List Str} (h : sub.Sublist words8) (st : Sto) : m_is_design [.tup (sub.map D.str)] st = .ok (.bl true) st := by
  have e := is_design_strs sub (fun s hs => words_ok s (h.subset hs)) st
  rw [decide_eq_true (sub_design sub h)] at e
  exact e
theorem check_design_go {sub : List Str} (h : sub.Sublist words8) (st : Sto) : m_check_design [.tup (sub.map D.str)] st = .ok .non st := by
  simp [m_check_design, g_check_design, is_design_go h st]
end K03

set_option Elab.async false
set_option linter.all false
set_option maxRecDepth 100000
set_option maxHeartbeats 8000000
namespace K03
open PySem PySem.Spec L2 DL CM
open PyProof.Rows hiding St
section
variable (i : Ins) (st : Sto)
theorem reading_go : m_is_reading [i.enc] st = .ok (.bl i.isRd) st := by cases i <;> simp [m_is_reading, g_is_reading, Ins.enc, Ins.isRd]
theorem writing_go : m_is_writing [i.enc] st = .ok (.bl i.isWr) st := by cases i <;> simp [m_is_writing, g_is_writing, Ins.enc, Ins.isWr, in_tup]
theorem cell_go : m_cell_of [i.enc] st = .ok i.cell st := by cases i <;> simp [m_cell_of, g_cell_of, reading_go, writing_go, Ins.isRd, Ins.isWr, Ins.cell] <;> simp [Ins.enc]
theorem used_go : m_used_by [i.enc] st = .ok i.used st := by cases i <;> simp [m_used_by, g_used_by, Ins.enc, Ins.used]
end
theorem lr_loop (c : List Ins) (n : Int) (kk : Option D) (st : Sto) : ∀ (l : List Nat), (∀ j ∈ l, j < c.length) → ∀ (f : Option Nat) (z : Option D), ∃ z',
    forGo (.nm 4) (sIf (gTAnd (gTr (gCall m_is_reading (aCons (gOp mIx (gVar 0) (gVar 4)) aNil))) (gBl (gOp mEq (gOp mIx (gOp mIx (gVar 0) (gVar 4)) (gC (.int 1))) (gVar 1)))) (sSet 3 (gVar 4)) sNext) (l.map fun j : Nat => D.int (j : Int)) [some (.tup (c.map Ins.enc)), some (.int n), kk, some (optN f), z] st
      = .ok (.nx [some (.tup (c.map Ins.enc)), some (.int n), kk, some (optN (l.foldl (stepP (rdP n) c) f)), z']) st
  | [], _, f, z => ⟨z, rfl⟩
  | j :: l, h, f, z => by
    have hj := h j List.mem_cons_self
    obtain ⟨z', e⟩ := lr_loop c n kk st l (fun x hx => h x (List.mem_cons_of_mem _ hx)) (stepP (rdP n) c f j) (some (.int (j : Int)))
    refine ⟨z', ?_⟩
    rw [List.foldl_cons, ← e, List.map_cons]
    have hx := ix_core hj
    have ht : tst (rdP n) c j = rdP n c[j] := tst_at hj
    generalize c[j] = i at hx ht
    unfold stepP
    rw [ht]
    cases i with
    | rd r x =>
      by_cases hr : r = n
      · simp [forGo, Pat.set, hx, reading_go, Ins.isRd, rdP, hr]
      · simp [forGo, Pat.set, hx, reading_go, Ins.isRd, rdP, hr]
    | wr x n => simp [forGo, Pat.set, hx, reading_go, Ins.isRd, rdP]
    | cp x n => simp [forGo, Pat.set, hx, reading_go, Ins.isRd, rdP]
    | fn => simp [forGo, Pat.set, hx, reading_go, Ins.isRd, rdP]
    | gd x n => simp [forGo, Pat.set, hx, reading_go, Ins.isRd, rdP]
theorem last_read_go (c : List Ins) (n : Int) (k : Nat) (hk : k ≤ c.length) (h9 : k ≤ 1000) (st : Sto) : m_last_read [.tup (c.map Ins.enc), .int n, .int (k : Int)] st = .ok (optN (lastP (rdP n) c k)) st := by
  obtain ⟨z', e⟩ := lr_loop c n (some (.int (k : Int))) st (List.range k) (fun j hj => Nat.lt_of_lt_of_le (List.mem_range.mp hj) hk) none none
  rw [← lastP_fold, ← CM.ints_map] at e
  have h1 : ((k : Nat) : Int) ≤ 1000000 := by omega
  have h2 : (-1000000 : Int) ≤ k := by omega
  simp only [optN_none] at e
  simp [m_last_read, g_last_read, h1, h2, e]
theorem lw_loop (c : List Ins) (n : Int) (kk : Option D) (st : Sto) : ∀ (l : List Nat), (∀ j ∈ l, j < c.length) → ∀ (f : Option Nat) (z : Option D), ∃ z',
    forGo (.nm 4) (sIf (gTAnd (gTr (gCall m_is_writing (aCons (gOp mIx (gVar 0) (gVar 4)) aNil))) (gBl (gOp mEq (gCall m_cell_of (aCons (gOp mIx (gVar 0) (gVar 4)) aNil)) (gVar 1)))) (sSet 3 (gVar 4)) sNext) (l.map fun j : Nat => D.int (j : Int)) [some (.tup (c.map Ins.enc)), some (.int n), kk, some (optN f), z] st
      = .ok (.nx [some (.tup (c.map Ins.enc)), some (.int n), kk, some (optN (l.foldl (stepP (wrP n) c) f)), z']) st
  | [], _, f, z => ⟨z, rfl⟩
  | j :: l, h, f, z => by
    have hj := h j List.mem_cons_self
    obtain ⟨z', e⟩ := lw_loop c n kk st l (fun x hx => h x (List.mem_cons_of_mem _ hx)) (stepP (wrP n) c f j) (some (.int (j : Int)))
    refine ⟨z', ?_⟩
    rw [List.foldl_cons, ← e, List.map_cons]
    have hx := ix_core hj
    have ht : tst (wrP n) c j = wrP n c[j] := tst_at hj
    generalize c[j] = i at hx ht
    unfold stepP
    rw [ht]
    cases i with
    | rd r x => simp [forGo, Pat.set, hx, writing_go, Ins.isWr, wrP]
    | wr x m =>
      by_cases hr : x = n
      · simp [forGo, Pat.set, hx, writing_go, Ins.isWr, wrP, hr, cell_go, Ins.cell]
      · simp [forGo, Pat.set, hx, writing_go, Ins.isWr, wrP, hr, cell_go, Ins.cell]
    | cp x m =>
      by_cases hr : x = n
      · simp [forGo, Pat.set, hx, writing_go, Ins.isWr, wrP, hr, cell_go, Ins.cell]
      · simp [forGo, Pat.set, hx, writing_go, Ins.isWr, wrP, hr, cell_go, Ins.cell]
    | fn => simp [forGo, Pat.set, hx, writing_go, Ins.isWr, wrP]
    | gd x n => simp [forGo, Pat.set, hx, writing_go, Ins.isWr, wrP]
theorem last_writing_go (c : List Ins) (n : Int) (k : Nat) (hk : k ≤ c.length) (h9 : k ≤ 1000) (st : Sto) : m_last_writing [.tup (c.map Ins.enc), .int n, .int (k : Int)] st = .ok (optN (lastP (wrP n) c k)) st := by
  obtain ⟨z', e⟩ := lw_loop c n (some (.int (k : Int))) st (List.range k) (fun j hj => Nat.lt_of_lt_of_le (List.mem_range.mp hj) hk) none none
  rw [← lastP_fold, ← CM.ints_map] at e
  have h1 : ((k : Nat) : Int) ≤ 1000000 := by omega
  have h2 : (-1000000 : Int) ≤ k := by omega
  simp only [optN_none] at e
  simp [m_last_writing, g_last_writing, h1, h2, e]
theorem ll_comp (p : Ins → Bool) (ks : List Str) (c : List Ins) (n : Int) (kk : Option D) (st : Sto) (hp : ∀ i : Ins, i.ok → okD (.str i.kind) = true ∧ okD (.lst (ks.map D.str)) = true ∧ (p i = (decide (i.kind ∈ ks) && (match mIx i.enc (.int 1) st with | some (.int x) => decide (x = n) | _ => false))) ∧ (decide (i.kind ∈ ks) = true → ∃ x, mIx i.enc (.int 1) st = some (.int x)))
    (hc : ∀ i ∈ c, i.ok) : ∀ (l : List Nat), (∀ j ∈ l, j < c.length) →
    compGo [some (.tup (c.map Ins.enc)), kk, some (.lst (ks.map D.str)), some (.int 1), some (.int n), none] (.nm 5) (gTAnd (gBl (gOp (mIn false) (gOp mIx (gOp mIx (gVar 0) (gVar 5)) (gC (.int 0))) (gVar 2))) (gBl (gOp mEq (gOp mIx (gOp mIx (gVar 0) (gVar 5)) (gVar 3)) (gVar 4)))) (gVar 5) (l.map fun j : Nat => D.int (j : Int)) st
      = .ok ((l.filter (tst p c)).map fun j : Nat => D.int (j : Int)) st
  | [], _ => rfl
  | j :: l, h => by
    have hj := h j List.mem_cons_self
    have ih := ll_comp p ks c n kk st hp hc l fun x hx => h x (List.mem_cons_of_mem _ hx)
    have hx := ix_core hj
    have ht : tst p c j = p c[j] := tst_at hj
    obtain ⟨h1, h2, h3, h4⟩ := hp c[j] (hc _ (List.getElem_mem hj))
    generalize c[j] = i at hx ht h1 h2 h3 h4
    rw [List.map_cons, List.filter_cons, ht, h3]
    by_cases hk : i.kind ∈ ks
    · obtain ⟨x, e⟩ := h4 (decide_eq_true hk)
      by_cases hn : x = n
      · simp [-List.map_map, -ok_lst, k_nm, hx, in_lst, h1, h2, any_strs, hk, e, ih, hn]
      · simp [-List.map_map, -ok_lst, k_nm, hx, in_lst, h1, h2, any_strs, hk, e, ih, hn]
    · simp [-List.map_map, -ok_lst, k_nm, hx, in_lst, h1, h2, any_strs, hk, ih]
section
variable {c : List Ins} (hc : ∀ i ∈ c, i.ok) {k : Nat} (hk : k ≤ c.length) (h9 : k ≤ 1000) (n : Int) (st : Sto)
include hc hk h9
theorem law_last_rd : m__law_last [.tup (c.map Ins.enc), .int (k : Int), .lst [.str "read"], .int 1, .int n] st = .ok (.lst (lastL (rdP n) c k)) st := by
  have e := ll_comp (rdP n) ["read"] c n (some (.int (k : Int))) st (fun i hi => by cases i <;> simp [Ins.kind, rdP]) hc (List.range k) (fun j hj => Nat.lt_of_lt_of_le (List.mem_range.mp hj) hk)
  rw [← CM.ints_map] at e
  have h1 : ((k : Nat) : Int) ≤ 1000000 := by omega
  have h2 : (-1000000 : Int) ≤ k := by omega
  have h3 := cut_filter (rdP n) c k
  simp only [List.map_cons, List.map_nil] at e
  simp [m__law_last, g__law_last, h1, h2, e, mSl, h3, -List.map_map]
theorem law_last_wr : m__law_last [.tup (c.map Ins.enc), .int (k : Int), .lst [.str "write", .str "copy"], .int 1, .int n] st = .ok (.lst (lastL (wrP n) c k)) st := by
  have e := ll_comp (wrP n) ["write", "copy"] c n (some (.int (k : Int))) st (fun i hi => by cases i <;> simp [Ins.kind, wrP]) hc (List.range k) (fun j hj => Nat.lt_of_lt_of_le (List.mem_range.mp hj) hk)
  rw [← CM.ints_map] at e
  have h1 : ((k : Nat) : Int) ≤ 1000000 := by omega
  have h2 : (-1000000 : Int) ≤ k := by omega
  have h3 := cut_filter (wrP n) c k
  simp only [List.map_cons, List.map_nil] at e
  simp [m__law_last, g__law_last, h1, h2, e, mSl, h3, -List.map_map]
end
section
variable {sub : List Str} (hs : sub.Sublist words8) {c : List Ins} (hc : ∀ i ∈ c, i.ok) (h5 : c.length ≤ 5) {i j : Nat} (hij : i < j) (hj : j < c.length) (st : Sto) {a b : Ins} (ha : c[i]? = some a) (hb : c[j]? = some b)
include hs hc h5 hij hj ha hb
theorem kept_go : m_is_kept [.tup (sub.map D.str), .tup (c.map Ins.enc), .int (i : Int), .int (j : Int)] st = .ok (.bl (keptB sub c i j a b)) st := by
  have xi : atI (c.map Ins.enc) ((i : Nat) : Int) = some a.enc := atI_nat (by simp [ha])
  have xj : atI (c.map Ins.enc) ((j : Nat) : Int) = some b.enc := atI_nat (by simp [hb])
  have lr := fun n st => last_read_go c n j (by omega) (by omega) st
  cases a <;> cases b <;> simp [-o_adds, m_is_kept, g_is_kept, m_is_kept_behind_guard, g_is_kept_behind_guard, m_is_kept_on_cell, g_is_kept_on_cell, m_kind_of, g_kind_of, xi, xj, lr, used_go, cell_go, reading_go, writing_go, Ins.kind, Ins.used, Ins.cell, Ins.isRd, Ins.isWr, optN_ok, optN_eq, in_des hs, nin_des hs, keptB, usedB, pairB, behB, rdB, wrB]
  all_goals (repeat' (split <;> rename_i h <;> (try simp [-o_adds, m_is_kept, g_is_kept, m_is_kept_behind_guard, g_is_kept_behind_guard, m_is_kept_on_cell, g_is_kept_on_cell, m_kind_of, g_kind_of, xi, xj, lr, used_go, cell_go, reading_go, writing_go, Ins.kind, Ins.used, Ins.cell, Ins.isRd, Ins.isWr, optN_ok, optN_eq, in_des hs, nin_des hs, keptB, usedB, pairB, behB, rdB, wrB, h])))
theorem waits_go : m_waits_for_copied [.tup (sub.map D.str), .tup (c.map Ins.enc), .int (i : Int), .int (j : Int)] st = .ok (.bl (wB sub c i j b)) st := by
  have xj : atI (c.map Ins.enc) ((j : Nat) : Int) = some b.enc := atI_nat (by simp [hb])
  by_cases ho : Str.ofString "own" ∈ sub
  · cases b with
    | rd r y =>
      have lw := last_writing_go c y j (by omega) (by omega)
      cases e : lastP (wrP y) c j with
      | none => simp [m_waits_for_copied, g_waits_for_copied, nin_des hs, ho, xj, reading_go, Ins.isRd, cell_go, Ins.cell, lw, e, wB]
      | some m =>
        obtain ⟨hm, h⟩ := src_of (by omega) e
        have lr := fun n st => last_read_go c n m (by omega) (by omega) st
        rcases h with ⟨n, h⟩ | ⟨n, h⟩
        · have xm : atI (c.map Ins.enc) ((m : Nat) : Int) = some (Ins.wr y n).enc := atI_nat (by simp [h])
          simp [m_waits_for_copied, g_waits_for_copied, nin_des hs, ho, xj, xm, reading_go, Ins.isRd, Ins.kind, cell_go, Ins.cell, lw, e, wB, h]
        · have xm : atI (c.map Ins.enc) ((m : Nat) : Int) = some (Ins.cp y n).enc := atI_nat (by simp [h])
          simp [m_waits_for_copied, g_waits_for_copied, nin_des hs, ho, xj, xm, reading_go, Ins.isRd, Ins.kind, cell_go, Ins.cell, used_go, Ins.used, lw, lr, e, wB, h, optN_ok, optN_eq]
    | wr x n => simp [m_waits_for_copied, g_waits_for_copied, nin_des hs, ho, xj, reading_go, Ins.isRd, wB]
    | cp x n => simp [m_waits_for_copied, g_waits_for_copied, nin_des hs, ho, xj, reading_go, Ins.isRd, wB]
    | fn => simp [m_waits_for_copied, g_waits_for_copied, nin_des hs, ho, xj, reading_go, Ins.isRd, wB]
    | gd x n => simp [m_waits_for_copied, g_waits_for_copied, nin_des hs, ho, xj, reading_go, Ins.isRd, wB]
  · cases b <;> simp [m_waits_for_copied, g_waits_for_copied, nin_des hs, ho, wB]
theorem must_wait_go : m_must_wait [.tup (sub.map D.str), .tup (c.map Ins.enc), .int (i : Int), .int (j : Int)] st = .ok (.bl (keptB sub c i j a b || wB sub c i j b)) st := by
  have e1 := kept_go hs hc h5 hij hj st ha hb
  have e2 := waits_go hs hc h5 hij hj st ha hb
  cases h : keptB sub c i j a b <;> rw [h] at e1 <;> simp [m_must_wait, g_must_wait, e1, e2]
end
theorem letter_go (i : Ins) (st : Sto) : m__law_letter [i.enc] st = .ok (.str i.letter) st := by
  cases i <;> simp [m__law_letter, g__law_letter, gTabIx, Ins.kind, Ins.letter, List.lookup]
theorem lcell_go (i : Ins) (st : Sto) : m__law_cell [i.enc] st = .ok i.cell st := by
  cases i <;> simp [m__law_cell, g__law_cell, Ins.kind, Ins.cell, in_lst]
section
variable {sub : List Str} (hs : sub.Sublist words8) {c : List Ins} (hc : ∀ i ∈ c, i.ok) (h5 : c.length ≤ 5) {i j : Nat} (hij : i < j) (hj : j < c.length) (st : Sto) {a b : Ins} (ha : c[i]? = some a) (hb : c[j]? = some b)
include hs hc h5 hij hj ha hb
theorem law_must_go : m__law_must [.tup (sub.map D.str), .tup (c.map Ins.enc), .int (i : Int), .int (j : Int)] st = .ok (.bl (keptB sub c i j a b || wB sub c i j b)) st := by
  have xi : atI (c.map Ins.enc) ((i : Nat) : Int) = some a.enc := atI_nat (by simp [ha])
  have xj : atI (c.map Ins.enc) ((j : Nat) : Int) = some b.enc := atI_nat (by simp [hb])
  have lrd := fun n st => law_last_rd hc (k := j) (by omega) (by omega) n st
  by_cases ho : Str.ofString "own" ∈ sub
  · cases b with
    | rd r y =>
      have lwr := law_last_wr hc (k := j) (by omega) (by omega) y
      cases e : lastP (wrP y) c j with
      | none =>
        have hl : lastL (wrP y) c j = [] := by unfold lastL; rw [e]
        rw [hl] at lwr
        cases a <;> simp [-o_adds, m__law_must, g__law_must, letter_go, lcell_go, xi, xj, Ins.kind, Ins.letter, Ins.cell, in_des hs, nin_des hs, in_lst, keptB, wB, usedB, pairB, behB, rdB, wrB, lrd, lastL_ok, lastL_eq, ho, lwr, e, forGo]
        all_goals (repeat' (split <;> rename_i h0 <;> (try simp [-o_adds, m__law_must, g__law_must, letter_go, lcell_go, xi, xj, Ins.kind, Ins.letter, Ins.cell, in_des hs, nin_des hs, in_lst, keptB, wB, usedB, pairB, behB, rdB, wrB, lrd, lastL_ok, lastL_eq, ho, h0])))
      | some m =>
        have hl : lastL (wrP y) c j = [.int (m : Int)] := by unfold lastL; rw [e]
        rw [hl] at lwr
        obtain ⟨hm, h⟩ := src_of (by omega) e
        have lrm := fun n st => law_last_rd hc (k := m) (by omega) (by omega) n st
        rcases h with ⟨n, h⟩ | ⟨n, h⟩
        · have xm : atI (c.map Ins.enc) ((m : Nat) : Int) = some (Ins.wr y n).enc := atI_nat (by simp [h])
          cases a <;> simp [-o_adds, m__law_must, g__law_must, letter_go, lcell_go, xi, xj, Ins.kind, Ins.letter, Ins.cell, in_des hs, nin_des hs, in_lst, keptB, wB, usedB, pairB, behB, rdB, wrB, lrd, lastL_ok, lastL_eq, ho, lwr, e, forGo, Pat.set, xm, h]
          all_goals (repeat' (split <;> rename_i h0 <;> (try simp [-o_adds, m__law_must, g__law_must, letter_go, lcell_go, xi, xj, Ins.kind, Ins.letter, Ins.cell, in_des hs, nin_des hs, in_lst, keptB, wB, usedB, pairB, behB, rdB, wrB, lrd, lastL_ok, lastL_eq, ho, h0])))
        · have xm : atI (c.map Ins.enc) ((m : Nat) : Int) = some (Ins.cp y n).enc := atI_nat (by simp [h])
          by_cases hq : lastP (rdP n) c m = some i
          · cases a <;> simp [-o_adds, m__law_must, g__law_must, letter_go, lcell_go, xi, xj, Ins.kind, Ins.letter, Ins.cell, in_des hs, nin_des hs, in_lst, keptB, wB, usedB, pairB, behB, rdB, wrB, lrd, lastL_ok, lastL_eq, ho, lwr, e, forGo, Pat.set, xm, h, lrm, hq]
          · cases a <;> simp [-o_adds, m__law_must, g__law_must, letter_go, lcell_go, xi, xj, Ins.kind, Ins.letter, Ins.cell, in_des hs, nin_des hs, in_lst, keptB, wB, usedB, pairB, behB, rdB, wrB, lrd, lastL_ok, lastL_eq, ho, lwr, e, forGo, Pat.set, xm, h, lrm, hq]
            all_goals (repeat' (split <;> rename_i h0 <;> (try simp [-o_adds, m__law_must, g__law_must, letter_go, lcell_go, xi, xj, Ins.kind, Ins.letter, Ins.cell, in_des hs, nin_des hs, in_lst, keptB, wB, usedB, pairB, behB, rdB, wrB, lrd, lastL_ok, lastL_eq, ho, h0])))
    | wr x n =>
      cases a <;> simp [-o_adds, m__law_must, g__law_must, letter_go, lcell_go, xi, xj, Ins.kind, Ins.letter, Ins.cell, in_des hs, nin_des hs, in_lst, keptB, wB, usedB, pairB, behB, rdB, wrB, lrd, lastL_ok, lastL_eq, ho]
      all_goals (repeat' (split <;> rename_i h0 <;> (try simp [-o_adds, m__law_must, g__law_must, letter_go, lcell_go, xi, xj, Ins.kind, Ins.letter, Ins.cell, in_des hs, nin_des hs, in_lst, keptB, wB, usedB, pairB, behB, rdB, wrB, lrd, lastL_ok, lastL_eq, ho, h0])))
    | cp x n =>
      cases a <;> simp [-o_adds, m__law_must, g__law_must, letter_go, lcell_go, xi, xj, Ins.kind, Ins.letter, Ins.cell, in_des hs, nin_des hs, in_lst, keptB, wB, usedB, pairB, behB, rdB, wrB, lrd, lastL_ok, lastL_eq, ho]
      all_goals (repeat' (split <;> rename_i h0 <;> (try simp [-o_adds, m__law_must, g__law_must, letter_go, lcell_go, xi, xj, Ins.kind, Ins.letter, Ins.cell, in_des hs, nin_des hs, in_lst, keptB, wB, usedB, pairB, behB, rdB, wrB, lrd, lastL_ok, lastL_eq, ho, h0])))
    | fn => cases a <;> simp [-o_adds, m__law_must, g__law_must, letter_go, lcell_go, xi, xj, Ins.kind, Ins.letter, Ins.cell, in_des hs, nin_des hs, in_lst, keptB, wB, usedB, pairB, behB, rdB, wrB, lrd, lastL_ok, lastL_eq, ho]
    | gd x n =>
      cases a <;> simp [-o_adds, m__law_must, g__law_must, letter_go, lcell_go, xi, xj, Ins.kind, Ins.letter, Ins.cell, in_des hs, nin_des hs, in_lst, keptB, wB, usedB, pairB, behB, rdB, wrB, lrd, lastL_ok, lastL_eq, ho]
      all_goals (repeat' (split <;> rename_i h0 <;> (try simp [-o_adds, m__law_must, g__law_must, letter_go, lcell_go, xi, xj, Ins.kind, Ins.letter, Ins.cell, in_des hs, nin_des hs, in_lst, keptB, wB, usedB, pairB, behB, rdB, wrB, lrd, lastL_ok, lastL_eq, ho, h0])))
  · cases b with
    | rd r y =>
      cases a <;> simp [-o_adds, m__law_must, g__law_must, letter_go, lcell_go, xi, xj, Ins.kind, Ins.letter, Ins.cell, in_des hs, nin_des hs, in_lst, keptB, wB, usedB, pairB, behB, rdB, wrB, lrd, lastL_ok, lastL_eq, ho]
      all_goals (repeat' (split <;> rename_i h0 <;> (try simp [-o_adds, m__law_must, g__law_must, letter_go, lcell_go, xi, xj, Ins.kind, Ins.letter, Ins.cell, in_des hs, nin_des hs, in_lst, keptB, wB, usedB, pairB, behB, rdB, wrB, lrd, lastL_ok, lastL_eq, ho, h0])))
    | wr x n =>
      cases a <;> simp [-o_adds, m__law_must, g__law_must, letter_go, lcell_go, xi, xj, Ins.kind, Ins.letter, Ins.cell, in_des hs, nin_des hs, in_lst, keptB, wB, usedB, pairB, behB, rdB, wrB, lrd, lastL_ok, lastL_eq, ho]
      all_goals (repeat' (split <;> rename_i h0 <;> (try simp [-o_adds, m__law_must, g__law_must, letter_go, lcell_go, xi, xj, Ins.kind, Ins.letter, Ins.cell, in_des hs, nin_des hs, in_lst, keptB, wB, usedB, pairB, behB, rdB, wrB, lrd, lastL_ok, lastL_eq, ho, h0])))
    | cp x n =>
      cases a <;> simp [-o_adds, m__law_must, g__law_must, letter_go, lcell_go, xi, xj, Ins.kind, Ins.letter, Ins.cell, in_des hs, nin_des hs, in_lst, keptB, wB, usedB, pairB, behB, rdB, wrB, lrd, lastL_ok, lastL_eq, ho]
      all_goals (repeat' (split <;> rename_i h0 <;> (try simp [-o_adds, m__law_must, g__law_must, letter_go, lcell_go, xi, xj, Ins.kind, Ins.letter, Ins.cell, in_des hs, nin_des hs, in_lst, keptB, wB, usedB, pairB, behB, rdB, wrB, lrd, lastL_ok, lastL_eq, ho, h0])))
    | fn => cases a <;> simp [-o_adds, m__law_must, g__law_must, letter_go, lcell_go, xi, xj, Ins.kind, Ins.letter, Ins.cell, in_des hs, nin_des hs, in_lst, keptB, wB, usedB, pairB, behB, rdB, wrB, lrd, lastL_ok, lastL_eq, ho]
    | gd x n =>
      cases a <;> simp [-o_adds, m__law_must, g__law_must, letter_go, lcell_go, xi, xj, Ins.kind, Ins.letter, Ins.cell, in_des hs, nin_des hs, in_lst, keptB, wB, usedB, pairB, behB, rdB, wrB, lrd, lastL_ok, lastL_eq, ho]
      all_goals (repeat' (split <;> rename_i h0 <;> (try simp [-o_adds, m__law_must, g__law_must, letter_go, lcell_go, xi, xj, Ins.kind, Ins.letter, Ins.cell, in_des hs, nin_des hs, in_lst, keptB, wB, usedB, pairB, behB, rdB, wrB, lrd, lastL_ok, lastL_eq, ho, h0])))
end
end K03

set_option Elab.async false
set_option linter.all false
set_option maxRecDepth 100000
set_option maxHeartbeats 4000000
namespace K03
open PySem PySem.Spec L2 DL CM
open PyProof.Rows hiding St
theorem source_go {c : List Ins} {k : Nat} (h9 : c.length ≤ 1000) {i : Ins} (hi : c[k]? = some i) (st : Sto) : m_source_of [encC c, natD k] st = .ok (optN (srcM c k i)) st := by
  have hk : k < c.length := (List.getElem?_eq_some_iff.mp hi).1
  have xk : atI (c.map Ins.enc) ((k : Nat) : Int) = some i.enc := atI_nat (by simp [hi])
  have lr := fun n st => last_read_go c n k (by omega) (by omega) st
  have lw := fun n st => last_writing_go c n k (by omega) (by omega) st
  cases i <;> simp [m_source_of, g_source_of, encC, natD, xk, reading_go, Ins.isRd, cell_go, Ins.cell, used_go, Ins.used, lr, lw, srcM]
section
variable {st : Sto} {r : Nat} {s : SM} (h : st[r]? = some (stepSO s)) {w : List (Option Int)} (hs : SIn w.length s)
include h hs
theorem word_used_go : m_word_used [.ref r, encWs w] st = .ok (encW (usedM s w)) st := by
  cases e : s.src with
  | none => simp [m_word_used, g_word_used, fld_at h, e, usedM, encW]
  | some k =>
    have x := ws_at (hs.src k e)
    simp [m_word_used, g_word_used, fld_at h, e, usedM, isnot_non, encWs, x]
theorem ends_core_go : m_ends_core [.ref r, encWs w] st = .ok (.bl (endsM s w)) st := by
  have u := word_used_go h hs
  cases e : s.ins with
  | gd a n =>
    have hx : mIx (Ins.gd a n).enc (.int 2) st = some (.int n) := rfl
    simp [m_ends_core, g_ends_core, fld_at h, e, Ins.kind, u, endsM, encW_ok, encW_eq, hx]
  | rd a n => simp [m_ends_core, g_ends_core, fld_at h, e, Ins.kind, endsM]
  | wr a n => simp [m_ends_core, g_ends_core, fld_at h, e, Ins.kind, endsM]
  | cp a n => simp [m_ends_core, g_ends_core, fld_at h, e, Ins.kind, endsM]
  | fn => simp [m_ends_core, g_ends_core, fld_at h, e, Ins.kind, endsM]
theorem written_go : m_word_written [.ref r, encWs w] st = .ok (encW (writtenM s w)) st := by
  have u := word_used_go h hs
  cases e : s.ins with
  | wr a n =>
    have hx : mIx (Ins.wr a n).enc (.int 2) st = some (.int n) := rfl
    simp [m_word_written, g_word_written, fld_at h, e, Ins.kind, writtenM, encW, hx]
  | gd a n => simp [m_word_written, g_word_written, fld_at h, e, Ins.kind, u, writtenM]
  | rd a n => simp [m_word_written, g_word_written, fld_at h, e, Ins.kind, u, writtenM]
  | cp a n => simp [m_word_written, g_word_written, fld_at h, e, Ins.kind, u, writtenM]
  | fn => simp [m_word_written, g_word_written, fld_at h, e, Ins.kind, u, writtenM]
theorem waits_loop : ∀ (l : List Nat), (∀ k ∈ l, k < w.length) → ∀ z : Option D, ∃ o : Out Fl,
    forGo (.nm 2) (sIf (gBl (gOp mIs (gOp mIx (gVar 1) (gVar 2)) (gC .non))) (sRet (gC (.bl false))) sNext) (l.map natD) [some (.ref r), some (encWs w), z] st = o ∧
      ((l.all (fun k => (wAt w k).isSome) = true ∧ ∃ z', o = .ok (.nx [some (.ref r), some (encWs w), z']) st) ∨ (l.all (fun k => (wAt w k).isSome) = false ∧ o = .ok (.rt (.bl false)) st))
  | [], _, z => ⟨_, rfl, .inl ⟨rfl, z, rfl⟩⟩
  | k :: l, hl, z => by
    have x := ws_at (hl k List.mem_cons_self)
    obtain ⟨o, e, q⟩ := waits_loop l (fun j hj => hl j (List.mem_cons_of_mem _ hj)) (some (natD k))
    cases c : wAt w k with
    | none =>
      rw [c] at x
      refine ⟨_, rfl, .inr ⟨by simp [c], ?_⟩⟩
      simp [forGo, Pat.set, natD, encWs, x, encW]
    | some v =>
      rw [c] at x
      refine ⟨o, ?_, ?_⟩
      · rw [← e]
        have x1 : mIx (encWs w) (.int (k : Int)) st = some (.int v) := x
        simp [forGo, Pat.set, natD, x1]
      · simpa [c] using q
theorem behind_comp (ρ : DL.Env) (h3 : ρ.length = 3) (h1 : ρ[1]? = some (some (encWs w))) : ∀ (l : List Nat), (∀ k ∈ l, k < w.length) →
    compGo ρ (.nm 2) gYes (gOp mIs (gOp mIx (gVar 1) (gVar 2)) (gC .non)) (l.map natD) st = .ok ((l.map fun k => (wAt w k).isNone).map D.bl) st
  | [], _ => rfl
  | k :: l, hl => by
    have x : mIx (encWs w) (natD k) st = some (encW (wAt w k)) := ws_at (hl k List.mem_cons_self)
    have ih := behind_comp ρ h3 h1 l fun j hj => hl j (List.mem_cons_of_mem _ hj)
    have v1 : ∀ z st, gVar 1 (ρ.set 2 z) st = .ok (encWs w) st := fun z st => gv (by rw [List.getElem?_set_ne (by decide), h1])
    have v2 : ∀ z st, gVar 2 (ρ.set 2 (some z)) st = .ok z st := fun z st => gv (by rw [List.getElem?_set_self (by omega)])
    simp [k_nm, v1, v2, x, is_non, ih, -List.map_map]
theorem can_come_go : m_can_come [.ref r, encWs w] st = .ok (.bl (canM s w)) st := by
  obtain ⟨o, e, q⟩ := waits_loop h hs s.waits hs.waits none
  have ec := ends_core_go h hs
  rcases q with ⟨q1, z', rfl⟩ | ⟨q1, rfl⟩
  · have eb := behind_comp h hs [some (.ref r), some (encWs w), none] rfl rfl s.behind hs.behind
    have hb : ∀ l : List Bool, bls (l.map D.bl) = some l := fun l => by
      induction l with
      | nil => rfl
      | cons b l ih => simp [ih]
    cases hc : endsM s w <;> rw [hc] at ec
    · simp [m_can_come, g_can_come, fld_at h, e, ec, canM, q1, hc]
    · simp [m_can_come, g_can_come, fld_at h, e, ec, canM, q1, hc, eb, hb, -List.map_map]
  · simp [m_can_come, g_can_come, fld_at h, e, canM, q1]
end
end K03

set_option Elab.async false
set_option linter.all false
set_option maxRecDepth 100000
set_option maxHeartbeats 4000000
namespace K03
open PySem PySem.Spec L2 DL CM
open PyProof.Rows hiding St
theorem now_comp {st : Sto} {w : List (Option Int)} {S : List SM} (hw : w.length = S.length) (hS : ∀ s ∈ S, SIn w.length s) (ρ : DL.Env) (h5 : ρ.length = 5) (h2 : ρ[2]? = some (some (encWs w))) : ∀ (rs : List Nat) (k : Nat), (∀ (j r : Nat), rs[j]? = some r → ∃ s, S[k + j]? = some s ∧ st[r]? = some (stepSO s)) →
    compGo ρ (.tp [(.nm 3), (.nm 4)]) (gTAnd (gBl (gOp mIs (gOp mIx (gVar 2) (gVar 3)) (gC .non))) (gTr (gCall m_can_come (aCons (gVar 4) (aCons (gVar 2) aNil))))) (gVar 3) (enumD k (rs.map D.ref)) st
      = .ok (((List.range' k rs.length).filter fun k => (wAt w k).isNone && canAt S w k).map natD) st
  | [], k, _ => rfl
  | r :: rs, k, h => by
    obtain ⟨s, e1, e2⟩ := h 0 r rfl
    have ih := now_comp hw hS ρ h5 h2 rs (k + 1) fun j r' hj => by
      obtain ⟨s', a, b⟩ := h (j + 1) r' (by simpa using hj)
      exact ⟨s', by rw [← a]; congr 1; omega, b⟩
    have hk : k < w.length := by
      rw [hw]
      exact (List.getElem?_eq_some_iff.mp e1).1
    have e1' : S[k]? = some s := e1
    have x : mIx (encWs w) (.int (k : Int)) st = some (encW (wAt w k)) := ws_at hk
    have cc := can_come_go e2 (w := w) (hS s (List.mem_of_getElem? e1))
    have v2 : ∀ z y st, gVar 2 ((ρ.set 3 z).set 4 y) st = .ok (encWs w) st := fun z y st => gv (by rw [List.getElem?_set_ne (by decide), List.getElem?_set_ne (by decide), h2])
    have v3 : ∀ z y st, gVar 3 ((ρ.set 3 (some z)).set 4 y) st = .ok z st := fun z y st => gv (by rw [List.getElem?_set_ne (by decide), List.getElem?_set_self (by omega)])
    have v4 : ∀ z y st, gVar 4 ((ρ.set 3 z).set 4 (some y)) st = .ok y st := fun z y st => gv (by rw [List.getElem?_set_self (by rw [List.length_set]; omega)])
    rw [List.map_cons, enumD, List.length_cons, List.range'_succ, List.filter_cons, k_t2]
    cases hn : wAt w k with
    | none =>
      rw [hn] at x
      cases hc : canM s w <;> rw [hc] at cc <;> simp [v2, v3, v4, x, encW, cc, hc, canAt_at e1', ih, natD, hn, -List.map_map]
    | some v =>
      rw [hn] at x
      simp [v2, v3, v4, x, encW, canAt_at e1', ih, natD, hn, -List.map_map]
section
variable {st : Sto} {rs : List Nat} {S : List SM} (h : SAt st rs S) {w : List (Option Int)} (hw : w.length = S.length) (hS : ∀ s ∈ S, SIn w.length s)
include h hw hS
theorem steps_now_go (cells : List Int) : m_steps_now [.lst (rs.map D.ref), encSt w cells] st = .ok (.lst ((nowM S w).map natD)) st := by
  have e := now_comp hw hS [some (.lst (rs.map D.ref)), some (encSt w cells), some (encWs w), none, none] rfl rfl rs 0 fun j r hj => by
    have hl : j < S.length := by
      rw [← h.len]
      exact (List.getElem?_eq_some_iff.mp hj).1
    exact ⟨S[j], by rw [Nat.zero_add]; exact List.getElem?_eq_getElem hl, h.at_ j r _ hj (List.getElem?_eq_getElem hl)⟩
  rw [← List.range_eq_range', h.len] at e
  simp only [encSt] at e ⊢
  simp [m_steps_now, g_steps_now, e, nowM, -List.map_map]
theorem ref_at {k : Nat} {s : SM} (hk : S[k]? = some s) : ∃ r, atI (rs.map D.ref) ((k : Nat) : Int) = some (.ref r) ∧ st[r]? = some (stepSO s) := by
  have hl : k < rs.length := by
    rw [h.len]
    exact (List.getElem?_eq_some_iff.mp hk).1
  exact ⟨rs[k], atI_nat (by simp [hl]), h.at_ k _ s (List.getElem?_eq_getElem hl) hk⟩
theorem taken_word_go {cells : List Int} (h3 : cells.length = 3) {r : Nat} {s : SM} (hr : st[r]? = some (stepSO s)) (hs : SIn w.length s) {a y : Int} (hi : s.ins = .rd a y) :
    m_word_taken [.lst (rs.map D.ref), encSt w cells, .ref r] st = .ok (encW (takenM S w cells s y)) st := by
  have ok := hs.ok
  rw [hi] at ok
  obtain ⟨_, y0, y2⟩ := ok
  have hc : atI (cells.map D.int) y = some (encW cells[y.toNat]?) := by
    have hy : y.toNat < cells.length := by omega
    refine atI_nat' y0 ?_
    rw [List.getElem?_map, List.getElem?_eq_getElem hy]
    rfl
  cases e : s.src with
  | none => simp [m_word_taken, g_word_taken, encSt, patOut, Pat.set, Pats.set, fld_at hr, e, hi, cell_go, Ins.cell, hc, takenM]
  | some k =>
    have hk := hs.src k e
    have x : mIx (encWs w) (.int (k : Int)) st = some (encW (wAt w k)) := ws_at hk
    have hkS : k < S.length := by omega
    obtain ⟨r', x2, hr'⟩ := ref_at h hw hS (List.getElem?_eq_getElem hkS)
    have wg := written_go hr' (w := w) (hS _ (List.getElem_mem hkS))
    cases c : wAt w k with
    | none =>
      rw [c] at x
      simp [m_word_taken, g_word_taken, encSt, patOut, Pat.set, Pats.set, fld_at hr, e, x, encW, x2, wg, takenM, c, List.getElem?_eq_getElem hkS]
    | some v =>
      rw [c] at x
      simp [m_word_taken, g_word_taken, encSt, patOut, Pat.set, Pats.set, fld_at hr, e, x, encW, hi, cell_go, Ins.cell, hc, takenM, c]
end
theorem first_state_go {n : Nat} (hn : n ≤ 1000) {l : List D} (hl : l.length = n) (st : Sto) : m_first_state [.lst l] st = .ok (encSt (List.replicate n none) [0, 0, 0]) st := by
  have e : (List.replicate n [D.non]).flatten = (List.replicate n (none : Option Int)).map encW := by
    induction n with
    | zero => rfl
    | succ n ih => simp [List.replicate_succ, encW]
  have h1 : (0 : Int) ≤ n ∧ (n : Int) ≤ 1000 := by omega
  simp [m_first_state, g_first_state, hl, h1, hn, e, encSt, encWs, c_FIRST_CELLS, -List.map_replicate]
theorem is_over_go (w : List (Option Int)) (cells : List Int) (st : Sto) : m_is_over [encSt w cells] st = .ok (.bl (overM w)) st := by
  simp [m_is_over, g_is_over, encSt, non_in]
end K03

set_option Elab.async false
set_option linter.all false
set_option maxRecDepth 100000
set_option maxHeartbeats 4000000
namespace K03
open PySem PySem.Spec L2 DL CM
open PyProof.Rows hiding St
theorem put_L {st : Sto} {l : List D} {b : SO} {k : Nat} {v : D} {ρ : DL.Env} (hk : k < l.length) : putOut (.ref st.length) (.int (k : Int)) v ρ (st ++ [.lst l, b]) = .ok (.nx ρ) (st ++ [.lst (l.set k v), b]) := by
  have hx : ixN l.length ((k : Nat) : Int) = some k := by
    unfold ixN
    rw [if_pos (Int.natCast_nonneg k), if_pos (by omega)]
    rfl
  rw [put_at get_L hx, set_L]
theorem put_L1 {st : Sto} {l : List D} {a : SO} {i : Int} {v : D} {ρ : DL.Env} (h0 : 0 ≤ i) (hi : i.toNat < l.length) : putOut (.ref (st.length + 1)) (.int i) v ρ (st ++ [a, .lst l]) = .ok (.nx ρ) (st ++ [a, .lst (l.set i.toNat v)]) := by
  have hx : ixN l.length i = some i.toNat := by
    unfold ixN
    rw [if_pos h0, if_pos (by omega)]
  rw [put_at get_L1 hx, set_L1]
theorem tup_L {st : Sto} {l : List D} {b : SO} (h : l.length ≤ LIM) : mTuple [.ref st.length] (st ++ [.lst l, b]) = some (.tup l) := by
  simp [mTuple, h]
theorem tup_L1 {st : Sto} {l : List D} {a : SO} (h : l.length ≤ LIM) : mTuple [.ref (st.length + 1)] (st ++ [a, .lst l]) = some (.tup l) := by
  simp [mTuple, h]
theorem left_loop {st : Sto} {x : SO} {a b c d e : Option D} : ∀ (l : List Nat) (w : List (Option Int)), (∀ j ∈ l, j < w.length) → ∀ z : Option D, ∃ z',
    forGo (.nm 6) (sPut (gVar 4) (gVar 6) (gC (.int (-1)))) (l.map natD) [a, b, c, d, some (.ref st.length), e, z] (st ++ [.lst (w.map encW), x])
      = .ok (.nx [a, b, c, d, some (.ref st.length), e, z']) (st ++ [.lst ((leftM w l).map encW), x])
  | [], w, _, z => ⟨z, rfl⟩
  | j :: l, w, h, z => by
    have hj := h j List.mem_cons_self
    obtain ⟨z', e⟩ := left_loop l (w.set j (some (-1))) (fun i hi => by rw [List.length_set]; exact h i (List.mem_cons_of_mem _ hi)) (some (natD j))
    refine ⟨z', ?_⟩
    have hp : ∀ ρ, putOut (.ref st.length) (.int (j : Int)) (.int (-1)) ρ (st ++ [.lst (w.map encW), x]) = .ok (.nx ρ) (st ++ [.lst ((w.set j (some (-1))).map encW), x]) := fun ρ => by
      rw [put_L (by simpa using hj)]
      rw [show (D.int (-1)) = encW (some (-1)) from rfl, encW_set]
    have e2 : leftM w (j :: l) = leftM (w.set j (some (-1))) l := rfl
    rw [e2, ← e]
    simp [forGo, Pat.set, natD, hp, -List.map_set]
section
variable {st : Sto} {rs : List Nat} {S : List SM} (h : SAt st rs S) {w : List (Option Int)} (hw : w.length = S.length) (hS : ∀ s ∈ S, SIn w.length s) (hz : S.length ≤ 1000) {cells : List Int} (h3 : cells.length = 3) {k : Nat} {s : SM} (hk : S[k]? = some s) (hu : ∀ x r, s.ins = .cp x r → (usedM s w).isSome = true)
include h hw hS hz h3 hk hu
theorem state_behind_go : m_state_behind [.lst (rs.map D.ref), encSt w cells, natD k] st = .ok (encSt (behindM S w cells k).1 (behindM S w cells k).2) (st ++ [.lst ((behindM S w cells k).1.map encW), .lst ((behindM S w cells k).2.map D.int)]) := by
  obtain ⟨r, xr, hr⟩ := ref_at h hw hS hk
  have hs := hS s (List.mem_of_getElem? hk)
  have hkw : k < w.length := by
    rw [hw]
    exact (List.getElem?_eq_some_iff.mp hk).1
  have g1 : Gr st (st ++ [.lst ((w.set k (some 0)).map encW), .lst (cells.map D.int)]) := gr_two st _ _
  have hr1 := g1.get hr
  have p0 : ∀ ρ, putOut (.ref st.length) (.int (k : Int)) (.int 0) ρ (st ++ [.lst (w.map encW), .lst (cells.map D.int)]) = .ok (.nx ρ) (st ++ [.lst ((w.set k (some 0)).map encW), .lst (cells.map D.int)]) := fun ρ => by
    rw [put_L (by simpa using hkw)]
    rw [show (D.int 0) = encW (some 0) from rfl, encW_set]
  have lw : ∀ w' : List (Option Int), w'.length = w.length → (w'.map encW).length ≤ LIM := fun w' e => by
    rw [List.length_map, e, hw]
    show _ ≤ 1000000
    omega
  have lc : ∀ c' : List Int, c'.length = 3 → (c'.map D.int).length ≤ LIM := fun c' e => by
    rw [List.length_map, e]
    show _ ≤ 1000000
    omega
  have T0 : ∀ (w' : List (Option Int)) (b : SO), w'.length = w.length → mTuple [.ref st.length] (st ++ [.lst (w'.map encW), b]) = some (encWs w') := fun w' b e => tup_L (lw w' e)
  have T1 : ∀ (a : SO) (c' : List Int), c'.length = 3 → mTuple [.ref (st.length + 1)] (st ++ [a, .lst (c'.map D.int)]) = some (.tup (c'.map D.int)) := fun a c' e => tup_L1 (lc c' e)
  rw [behindM_at hk]
  unfold behindS
  have ec := ends_core_go hr1 hs
  have ok := hs.ok
  have L0 : (w.set k (some 0)).length = w.length := List.length_set
  have hst : mIx (encSt w cells) (.int 0) st = some (encWs w) := rfl
  cases hi : s.ins with
  | rd a y =>
    have tw := taken_word_go (h.gr g1) hw hS h3 hr1 hs hi
    have p1 : ∀ ρ o, putOut (.ref st.length) (.int (k : Int)) (encW o) ρ (st ++ [.lst ((w.set k (some 0)).map encW), .lst (cells.map D.int)]) = .ok (.nx ρ) (st ++ [.lst ((w.set k o).map encW), .lst (cells.map D.int)]) := fun ρ o => by
      rw [put_L (by simpa using hkw), encW_set, List.set_set]
    have t0 := T0 (w.set k (takenM S w cells s y)) (.lst (cells.map D.int)) List.length_set
    have t1 := T1 (.lst ((w.set k (takenM S w cells s y)).map encW)) cells h3
    simp only [encSt, encWs] at tw t0 t1 ⊢
    simp [m_state_behind, g_state_behind, natD, xr, p0, p1, fld_at hr1, hi, reading_go, Ins.isRd, tw, t0, t1, -List.map_set]
  | wr x n =>
    rw [hi] at ok
    obtain ⟨⟨x0, x2⟩, _⟩ := ok
    have wg := written_go hr1 hs
    have ew : writtenM s w = some n := by simp [writtenM, hi]
    rw [ew] at wg
    have p1 : ∀ ρ, putOut (.ref (st.length + 1)) (.int x) (.int n) ρ (st ++ [.lst ((w.set k (some 0)).map encW), .lst (cells.map D.int)]) = .ok (.nx ρ) (st ++ [.lst ((w.set k (some 0)).map encW), .lst ((cells.set x.toNat n).map D.int)]) := fun ρ => by
      rw [put_L1 x0 (by rw [List.length_map]; omega)]
      rw [show (cells.set x.toNat n).map D.int = (cells.map D.int).set x.toNat (.int n) from List.map_set]
    have t0 := T0 (w.set k (some 0)) (.lst ((cells.set x.toNat n).map D.int)) L0
    have t1 := T1 (.lst ((w.set k (some 0)).map encW)) (cells.set x.toNat n) (by rw [List.length_set]; exact h3)
    simp only [encSt, encWs, encW] at wg t0 t1 ⊢
    simp [m_state_behind, g_state_behind, natD, xr, p0, p1, fld_at hr1, hi, reading_go, writing_go, cell_go, Ins.cell, Ins.isRd, Ins.isWr, wg, t0, t1, -List.map_set]
  | cp x a =>
    rw [hi] at ok
    obtain ⟨⟨x0, x2⟩, _⟩ := ok
    have wg := written_go hr1 hs
    have ew : writtenM s w = usedM s w := by simp [writtenM, hi]
    obtain ⟨v, hv⟩ := Option.isSome_iff_exists.mp (hu x a hi)
    rw [ew, hv] at wg
    have p1 : ∀ ρ, putOut (.ref (st.length + 1)) (.int x) (.int v) ρ (st ++ [.lst ((w.set k (some 0)).map encW), .lst (cells.map D.int)]) = .ok (.nx ρ) (st ++ [.lst ((w.set k (some 0)).map encW), .lst ((cells.set x.toNat v).map D.int)]) := fun ρ => by
      rw [put_L1 x0 (by rw [List.length_map]; omega)]
      rw [show (cells.set x.toNat v).map D.int = (cells.map D.int).set x.toNat (.int v) from List.map_set]
    have t0 := T0 (w.set k (some 0)) (.lst ((cells.set x.toNat v).map D.int)) L0
    have t1 := T1 (.lst ((w.set k (some 0)).map encW)) (cells.set x.toNat v) (by rw [List.length_set]; exact h3)
    simp only [encSt, encWs, encW] at wg t0 t1 ⊢
    simp [m_state_behind, g_state_behind, natD, xr, p0, p1, fld_at hr1, hi, reading_go, writing_go, cell_go, Ins.cell, Ins.isRd, Ins.isWr, wg, hv, t0, t1, -List.map_set]
  | fn =>
    have ee : endsM s w = false := by simp [endsM, hi]
    rw [ee] at ec
    have t0 := T0 (w.set k (some 0)) (.lst (cells.map D.int)) L0
    have t1 := T1 (.lst ((w.set k (some 0)).map encW)) cells h3
    simp only [encSt, encWs] at ec t0 t1 ⊢
    simp [m_state_behind, g_state_behind, natD, xr, p0, fld_at hr1, hi, reading_go, writing_go, Ins.isRd, Ins.isWr, ec, ee, t0, t1, -List.map_set]
  | gd a n =>
    cases ee : endsM s w with
    | false =>
      rw [ee] at ec
      have t0 := T0 (w.set k (some 0)) (.lst (cells.map D.int)) L0
      have t1 := T1 (.lst ((w.set k (some 0)).map encW)) cells h3
      simp only [encSt, encWs] at ec t0 t1 ⊢
      simp [m_state_behind, g_state_behind, natD, xr, p0, fld_at hr1, hi, reading_go, writing_go, Ins.isRd, Ins.isWr, ec, ee, t0, t1, -List.map_set]
    | true =>
      rw [ee] at ec
      obtain ⟨z', el⟩ := left_loop (st := st) (x := .lst (cells.map D.int)) (a := some (.lst (rs.map D.ref))) (b := some (encSt w cells)) (c := some (natD k)) (d := some (.ref r)) (e := some (.ref (st.length + 1))) s.behind (w.set k (some 0)) (fun j hj => by rw [L0]; exact hs.behind j hj) none
      have t0 := T0 (leftM (w.set k (some 0)) s.behind) (.lst (cells.map D.int)) (by rw [leftM_len]; exact L0)
      have t1 := T1 (.lst ((leftM (w.set k (some 0)) s.behind).map encW)) cells h3
      simp only [encSt, encWs, natD] at ec el t0 t1 ⊢
      simp [m_state_behind, g_state_behind, xr, p0, fld_at hr1, hi, reading_go, writing_go, Ins.isRd, Ins.isWr, ec, ee, el, t0, t1, natD, -List.map_set]
end
end K03

set_option Elab.async false
set_option linter.all false
set_option maxRecDepth 100000
set_option maxHeartbeats 4000000
namespace K03
open PySem PySem.Spec L2 DL CM
open PyProof.Rows hiding St
/-- what the lambda of q, with what it captured, answers for a core -/
def CloOk (q : Str) (caps : List D) (W : List Ins → Nat → Nat → Bool) (c : List Ins) : Prop :=
  ∃ gb, clo_tab.lookup q = some gb ∧ ∀ i j : Nat, i < j → j < c.length → ∀ st, gb ((caps ++ [encC c, natD i, natD j]).map some) st = .ok (.bl (W c i j)) st
theorem fs_L {s1 : Sto} {l : List (Str × D)} {f : Str} {v : D} {ρ : DL.Env} (hl : l.length < 1000) : fldSetOut "Step" f ρ v (.ref s1.length) (s1 ++ [.ins "Step" l]) = .ok (.nx ρ) (s1 ++ [.ins "Step" (putD f v l)]) := by
  rw [fldset_at (l := l) (by simp) hl]
  simp
theorem waits_comp {q : Str} {caps : List D} {W : List Ins → Nat → Nat → Bool} {c : List Ins} (hc : CloOk q caps W c) {place start : Nat} (hp : place < c.length) (st : Sto) (ρ : DL.Env) (h9 : ρ.length = 9) (r2 : ρ[2]? = some (some (encC c))) (r3 : ρ[3]? = some (some (natD place))) (r4 : ρ[4]? = some (some (natD start))) (r5 : ρ[5]? = some (some (.clo q caps))) : ∀ l : List Nat, (∀ i ∈ l, i < place) →
    compGo ρ (.nm 7) (gTr (gClo 5 clo_tab (aCons (gVar 2) (aCons (gVar 7) (aCons (gVar 3) aNil))))) (gOp mAdd (gVar 4) (gVar 7)) (l.map natD) st = .ok (((l.filter fun i => W c i place).map (start + ·)).map natD) st
  | [], _ => rfl
  | i :: l, h => by
    have ih := waits_comp hc hp st ρ h9 r2 r3 r4 r5 l fun x hx => h x (List.mem_cons_of_mem _ hx)
    obtain ⟨gb, e1, e2⟩ := id hc
    have hi := e2 i place (h i List.mem_cons_self) hp
    have v2 : ∀ z st, gVar 2 (ρ.set 7 z) st = .ok (encC c) st := fun z st => gv (by rw [List.getElem?_set_ne (by decide), r2])
    have v3 : ∀ z st, gVar 3 (ρ.set 7 z) st = .ok (natD place) st := fun z st => gv (by rw [List.getElem?_set_ne (by decide), r3])
    have v4 : ∀ z st, gVar 4 (ρ.set 7 z) st = .ok (natD start) st := fun z st => gv (by rw [List.getElem?_set_ne (by decide), r4])
    have v7 : ∀ z st, gVar 7 (ρ.set 7 (some z)) st = .ok z st := fun z st => gv (by rw [List.getElem?_set_self (by omega)])
    have hc5 : ∀ z fs st, gClo 5 clo_tab fs (ρ.set 7 z) st = (fs (ρ.set 7 z) st).bind (cloOut gb caps) := fun z fs st => clo_at (by rw [List.getElem?_set_ne (by decide), r5]) e1
    have ea : mAdd (natD start) (natD i) st = some (natD (start + i)) := by
      show some (D.int _) = some (D.int _)
      congr 2
    cases hw : W c i place <;> rw [hw] at hi <;> simp [k_nm, hc5, v2, v3, v4, v7, cloOut, hi, ih, hw, ea, -List.map_map, -List.map_append]
theorem beh_comp {start : Nat} (st : Sto) (ρ : DL.Env) (h9 : ρ.length = 9) (r4 : ρ[4]? = some (some (natD start))) : ∀ l : List Nat,
    compGo ρ (.nm 8) gYes (gOp mAdd (gVar 4) (gVar 8)) (l.map natD) st = .ok ((l.map (start + ·)).map natD) st
  | [] => rfl
  | i :: l => by
    have ih := beh_comp st ρ h9 r4 l
    have v4 : ∀ z st, gVar 4 (ρ.set 8 z) st = .ok (natD start) st := fun z st => gv (by rw [List.getElem?_set_ne (by decide), r4])
    have v8 : ∀ z st, gVar 8 (ρ.set 8 (some z)) st = .ok z st := fun z st => gv (by rw [List.getElem?_set_self (by omega)])
    have ea : mAdd (natD start) (natD i) st = some (natD (start + i)) := by
      show some (D.int _) = some (D.int _)
      congr 2
    simp [k_nm, v4, v8, ih, ea, -List.map_map]
theorem init_go {q : Str} {caps : List D} {W : List Ins → Nat → Nat → Bool} {c : List Ins} (hc : CloOk q caps W c) {number place start : Nat} (hp : place < c.length) (h5 : c.length ≤ 5) (s1 : Sto) :
    m_Step_init [.ref s1.length, natD number, encC c, natD place, natD start, .clo q caps] (s1 ++ [.ins "Step" []]) = .ok .non (s1 ++ [stepSO (stepM W number c start place)]) := by
  obtain ⟨i0, h0⟩ : ∃ i0, c.getD place .fn = i0 := ⟨_, rfl⟩
  have hi : c[place]? = some i0 := by
    rw [← h0]
    rw [List.getElem?_eq_getElem hp, List.getD_eq_getElem?_getD, List.getElem?_eq_getElem hp]
    rfl
  have xi : ∀ st, mIx (encC c) (natD place) st = some i0.enc := fun st => by
    show atI (c.map Ins.enc) _ = _
    exact atI_nat (by rw [List.getElem?_map, hi]; rfl)
  have sg := fun st => source_go (c := c) (k := place) (by omega) hi st
  have e1 := fun st => waits_comp hc (start := start) hp st [some (.ref s1.length), some (natD number), some (encC c), some (natD place), some (natD start), some (.clo q caps), none, none, none] rfl rfl rfl rfl rfl (List.range place) fun i h => List.mem_range.mp h
  have e2 := fun st => beh_comp (start := start) st [some (.ref s1.length), some (natD number), some (encC c), some (natD place), some (natD start), some (.clo q caps), none, none, none] rfl rfl ((List.range (c.length - (place + 1))).map fun i => place + 1 + i)
  have r1 : intsD 0 place = (List.range place).map natD := by simp [intsD, natD]
  have r2 : intsD ((place : Int) + 1) ((c.length : Int) - ((place : Int) + 1)).toNat = ((List.range (c.length - (place + 1))).map fun i => place + 1 + i).map natD := by
    have en : ((c.length : Int) - ((place : Int) + 1)).toNat = c.length - (place + 1) := by omega
    rw [en]
    unfold intsD
    rw [List.map_map]
    exact List.map_congr_left fun i _ => by
      show D.int _ = D.int _
      congr 1
  have g1 : mRange1 [natD place] = some ((List.range place).map natD) := by
    rw [show natD place = .int (place : Int) from rfl, o_rg1, if_pos (by omega)]
    exact congrArg some r1
  have ln : ∀ st, mLen [encC c] st = some (.int (c.length : Int)) := fun st => by simp [encC]
  have a1 : ∀ st, mAdd (natD place) (.int 1) st = some (.int ((place : Int) + 1)) := fun st => rfl
  have R2 : ∀ (z : Option D) st, gRange2 (aCons (gOp mAdd (gVar 3) (gC (.int 1))) (aCons (gCB mLen (aCons (gVar 2) aNil)) aNil)) [some (.ref s1.length), some (natD number), some (encC c), some (natD place), some (natD start), some (.clo q caps), none, none, z] st = .ok (((List.range (c.length - (place + 1))).map fun i => place + 1 + i).map natD) st := fun z st => by
    rw [range2_at (a := (place : Int) + 1) (b := c.length) (s1 := st) (by simp [a1, ln]) (by omega) (by omega), r2]
  let ρ : Option D → DL.Env := fun z => [some (.ref s1.length), some (natD number), some (encC c), some (natD place), some (natD start), some (.clo q caps), z, none, none]
  let f1 : Str × D := ("event", .tup [natD number, natD place])
  let f2 : Str × D := ("instruction", i0.enc)
  let f3 : Str × D := ("waits", .tup ((((List.range place).filter fun i => W c i place).map (start + ·)).map natD))
  let f4 : Str × D := ("behind", .tup ((((List.range (c.length - (place + 1))).map fun i => place + 1 + i).map (start + ·)).map natD))
  have L1 : sFldSet "Step" "event" (gVar 0) (gTupD (aCons (gVar 1) (aCons (gVar 3) aNil))) (ρ none) (s1 ++ [.ins "Step" []]) = .ok (.nx (ρ none)) (s1 ++ [.ins "Step" [f1]]) := by
    simp [ρ, fs_L, putD, f1]
  have L2 : sFldSet "Step" "instruction" (gVar 0) (gOp mIx (gVar 2) (gVar 3)) (ρ none) (s1 ++ [.ins "Step" [f1]]) = .ok (.nx (ρ none)) (s1 ++ [.ins "Step" [f1, f2]]) := by
    simp [ρ, fs_L, putD, f1, f2, xi]
  have L3 : sFldSet "Step" "waits" (gVar 0) (gCB mTuple (aCons (gComp [7] (gRange1 (aCons (gVar 3) aNil)) (.nm 7) (gTr (gClo 5 clo_tab (aCons (gVar 2) (aCons (gVar 7) (aCons (gVar 3) aNil))))) (gOp mAdd (gVar 4) (gVar 7))) aNil)) (ρ none) (s1 ++ [.ins "Step" [f1, f2]]) = .ok (.nx (ρ none)) (s1 ++ [.ins "Step" [f1, f2, f3]]) := by
    simp [ρ, fs_L, putD, f1, f2, f3, g1, e1, -List.map_map]
  have L4 : sFldSet "Step" "behind" (gVar 0) (gCB mTuple (aCons (gComp [8] (gRange2 (aCons (gOp mAdd (gVar 3) (gC (.int 1))) (aCons (gCB mLen (aCons (gVar 2) aNil)) aNil))) (.nm 8) gYes (gOp mAdd (gVar 4) (gVar 8))) aNil)) (ρ none) (s1 ++ [.ins "Step" [f1, f2, f3]]) = .ok (.nx (ρ none)) (s1 ++ [.ins "Step" [f1, f2, f3, f4]]) := by
    simp [ρ, fs_L, putD, f1, f2, f3, f4, R2, e2, -e_Range2, -List.map_map]
  have eM : stepM W number c start place = ⟨number, place, i0, ((List.range place).filter fun i => W c i place).map (start + ·), ((List.range (c.length - (place + 1))).map fun i => place + 1 + i).map (start + ·), (srcM c place i0).map (start + ·)⟩ := by
    unfold stepM
    rw [h0]
  rw [eM]
  have LS : (sSeq (sSet 6 (gCall m_source_of (aCons (gVar 2) (aCons (gVar 3) aNil)))) (sFldSet "Step" "source" (gVar 0) (gIf (gBl (gOp mIs (gVar 6) (gC .non))) (gC .non) (gOp mAdd (gVar 4) (gVar 6))))) (ρ none) (s1 ++ [.ins "Step" [f1, f2, f3, f4]]) = .ok (.nx (ρ (some (optN (srcM c place i0))))) (s1 ++ [.ins "Step" [f1, f2, f3, f4, ("source", optN ((srcM c place i0).map (start + ·)))]]) := by
    cases es : srcM c place i0 with
    | none =>
      rw [es] at sg
      simp [ρ, fs_L, putD, f1, f2, f3, f4, sg]
    | some m =>
      rw [es] at sg
      have ea : ∀ st, mAdd (natD start) (.int (m : Int)) st = some (natD (start + m)) := fun st => by
        show some (D.int _) = some (D.int _)
        congr 2
      simp [ρ, fs_L, putD, f1, f2, f3, f4, sg, ea]
      rfl
  show (g_Step_init (ρ none) (s1 ++ [.ins "Step" []])).bind endD = _
  unfold g_Step_init
  rw [sSeq_ap, L1, Out.bind_ok, e_thn, sSeq_ap, L2, Out.bind_ok, e_thn, sSeq_ap, L3, Out.bind_ok, e_thn, sSeq_ap, L4, Out.bind_ok, e_thn, LS, Out.bind_ok, e_endn]
  rfl
end K03

set_option Elab.async false
set_option linter.all false
set_option maxRecDepth 100000
set_option maxHeartbeats 4000000
namespace K03
open PySem PySem.Spec L2 DL CM
open PyProof.Rows hiding St
section
variable {q : Str} {caps : List D} {W : List Ins → Nat → Nat → Bool}
theorem mk_comp {c : List Ins} (hc : CloOk q caps W c) (h5 : c.length ≤ 5) {number start : Nat} (ρ : DL.Env) (h7 : ρ.length = 7) (r1 : ρ[1]? = some (some (.clo q caps))) (r3 : ρ[3]? = some (some (natD number))) (r4 : ρ[4]? = some (some (encC c))) (r5 : ρ[5]? = some (some (natD start))) : ∀ (l : List Nat) (st : Sto), (∀ i ∈ l, i < c.length) →
    compGo ρ (.nm 6) gYes (gMake "Step" m_Step_init (aCons (gVar 3) (aCons (gVar 4) (aCons (gVar 6) (aCons (gVar 5) (aCons (gVar 1) aNil)))))) (l.map natD) st
      = .ok ((List.range' st.length l.length).map D.ref) (st ++ l.map fun p => stepSO (stepM W number c start p))
  | [], st, _ => by simp
  | i :: l, st, h => by
    have e := init_go hc (number := number) (start := start) (h i List.mem_cons_self) h5 st
    have ih := mk_comp hc h5 ρ h7 r1 r3 r4 r5 l (st ++ [stepSO (stepM W number c start i)]) fun x hx => h x (List.mem_cons_of_mem _ hx)
    have v1 : ∀ z st, gVar 1 (ρ.set 6 z) st = .ok (.clo q caps) st := fun z st => gv (by rw [List.getElem?_set_ne (by decide), r1])
    have v3 : ∀ z st, gVar 3 (ρ.set 6 z) st = .ok (natD number) st := fun z st => gv (by rw [List.getElem?_set_ne (by decide), r3])
    have v4 : ∀ z st, gVar 4 (ρ.set 6 z) st = .ok (encC c) st := fun z st => gv (by rw [List.getElem?_set_ne (by decide), r4])
    have v5 : ∀ z st, gVar 5 (ρ.set 6 z) st = .ok (natD start) st := fun z st => gv (by rw [List.getElem?_set_ne (by decide), r5])
    have v6 : ∀ z st, gVar 6 (ρ.set 6 (some z)) st = .ok z st := fun z st => gv (by rw [List.getElem?_set_self (by omega)])
    rw [List.length_append, List.length_cons, List.length_nil] at ih
    rw [List.map_cons, List.length_cons, List.range'_succ, k_nm]
    simp [v1, v3, v4, v5, v6, e, ih, -List.map_map]
theorem mk_loop {prog : D} : ∀ (p : List (List Ins)) (k : Nat) (rs : List Nat) (st : Sto) (x y z u : Option D), (∀ c ∈ p, CloOk q caps W c ∧ c.length ≤ 5) → rs.length + 5 * p.length ≤ 1000 → ∃ x' y' z',
    forGo (.tp [(.nm 3), (.nm 4)]) (sSeq (sSet 5 (gCB mLen (aCons (gVar 2) aNil))) (sSet 2 (gOp mAdd (gVar 2) (gComp [6] (gRange1 (aCons (gCB mLen (aCons (gVar 4) aNil)) aNil)) (.nm 6) gYes (gMake "Step" m_Step_init (aCons (gVar 3) (aCons (gVar 4) (aCons (gVar 6) (aCons (gVar 5) (aCons (gVar 1) aNil)))))))))) (enumD k (p.map encC))
        [some prog, some (.clo q caps), some (.lst (rs.map D.ref)), x, y, z, u] st
      = .ok (.nx [some prog, some (.clo q caps), some (.lst ((rs ++ List.range' st.length (stepsFrom W k rs.length p).length).map D.ref)), x', y', z', u]) (st ++ (stepsFrom W k rs.length p).map stepSO)
  | [], k, rs, st, x, y, z, u, _, _ => ⟨x, y, z, by simp [stepsFrom, enumD, forGo]⟩
  | c :: p, k, rs, st, x, y, z, u, h, hl => by
    obtain ⟨hc, h5⟩ := h c List.mem_cons_self
    rw [List.length_cons] at hl
    have e1 := mk_comp hc h5 (number := k) (start := rs.length) [some prog, some (.clo q caps), some (.lst (rs.map D.ref)), some (natD k), some (encC c), some (natD rs.length), none] rfl rfl rfl rfl rfl (List.range c.length) st fun i hi => List.mem_range.mp hi
    obtain ⟨x', y', z', e2⟩ := mk_loop p (k + 1) (rs ++ List.range' st.length c.length) (st ++ (List.range c.length).map fun p => stepSO (stepM W k c rs.length p)) (some (natD k)) (some (encC c)) (some (natD rs.length)) u (fun d hd => h d (List.mem_cons_of_mem _ hd)) (by simp; omega)
    refine ⟨x', y', z', ?_⟩
    have r1 : mRange1 [.int (c.length : Int)] = some ((List.range c.length).map natD) := by
      rw [o_rg1, if_pos (by omega)]
      exact congrArg some (by simp [intsD, natD])
    have ln : ∀ st, mLen [encC c] st = some (.int (c.length : Int)) := fun st => by simp [encC]
    have hz : rs.length + c.length ≤ LIM := by
      show _ ≤ 1000000
      omega
    have ad : ∀ st', mAdd (.lst (rs.map D.ref)) (.lst ((List.range' st.length c.length).map D.ref)) st' = some (.lst ((rs ++ List.range' st.length c.length).map D.ref)) := fun st' => by
      rw [o_addl, List.length_map, List.length_map, List.length_range', if_pos hz, List.map_append]
    rw [List.length_range] at e1
    simp only [List.length_append, List.length_range', List.length_map, List.length_range] at e2
    have es : stepsFrom W k rs.length (c :: p) = (List.range c.length).map (stepM W k c rs.length) ++ stepsFrom W (k + 1) (rs.length + c.length) p := rfl
    have eS : st ++ ((List.range c.length).map (stepM W k c rs.length) ++ stepsFrom W (k + 1) (rs.length + c.length) p).map stepSO = st ++ ((List.range c.length).map fun p => stepSO (stepM W k c rs.length p)) ++ (stepsFrom W (k + 1) (rs.length + c.length) p).map stepSO := by
      rw [List.map_append, List.map_map, List.append_assoc]
      rfl
    rw [es, eS, List.length_append, List.length_map, List.length_range, ← range'_app, ← List.append_assoc, List.map_cons, enumD, ← e2]
    have n1 : ∀ st, mLen [.lst (rs.map D.ref)] st = some (natD rs.length) := fun st => by simp [natD]
    simp only [natD] at e1 n1 r1 ⊢
    simp [forGo, Pat.set, Pats.set, n1, ln, r1, e1, ad, -o_rg1, -o_addl, -o_lenl, -List.map_map, -List.map_append, -List.append_assoc]
theorem make_steps_go {p : List (List Ins)} (h : ∀ c ∈ p, CloOk q caps W c ∧ c.length ≤ 5) (hl : p.length ≤ 3) (st : Sto) : m_make_steps [encP p, .clo q caps] st = .ok (.lst ((List.range' st.length (stepsFrom W 0 0 p).length).map D.ref)) (st ++ (stepsFrom W 0 0 p).map stepSO) := by
  obtain ⟨x', y', z', e⟩ := mk_loop (prog := encP p) p 0 [] st none none none none h (by simp; omega)
  simp only [encP, List.map_nil, List.nil_append, List.length_nil] at e ⊢
  simp [m_make_steps, g_make_steps, e, -List.map_map]
end
theorem clo_on {sub : List Str} (hs : sub.Sublist words8) {c : List Ins} (hc : ∀ i ∈ c, i.ok) (h5 : c.length ≤ 5) : CloOk "steps_on" [.tup (sub.map D.str)] (mustM sub) c := by
  refine ⟨lg_steps_on, by simp [clo_tab, List.lookup], fun i j hij hj st => ?_⟩
  have ha : c[i]? = some (c[i]'(by omega)) := List.getElem?_eq_getElem _
  have hb : c[j]? = some c[j] := List.getElem?_eq_getElem _
  have e := must_wait_go hs hc h5 hij hj st ha hb
  have em : mustM sub c i j = (keptB sub c i j (c[i]'(by omega)) c[j] || wB sub c i j c[j]) := by
    unfold mustM
    rw [ha, hb]
  rw [em, ← e]
  simp [lg_steps_on, natD, encC]
theorem steps_on_go {sub : List Str} (hs : sub.Sublist words8) {p : List (List Ins)} (hp : POk p) {st : Sto} (ht : st.any (SO.isTab "steps_on") = true) (hf : Cf st) :
    m_steps_on [.tup (sub.map D.str), encP p] st = .ok (.lst ((List.range' st.length (stepsFrom (mustM sub) 0 0 p).length).map D.ref)) (st ++ (stepsFrom (mustM sub) 0 0 p).map stepSO) := by
  have e := make_steps_go (q := "steps_on") (caps := [.tup (sub.map D.str)]) (W := mustM sub) (p := p) (fun c hc => ⟨clo_on hs (hp.ins c hc) (hp.c5 c hc), hp.c5 c hc⟩) hp.n3 st
  have l := lam_at (ρ := [some (.tup (sub.map D.str)), some (encP p)]) (is := [0]) (cs := [.tup (sub.map D.str)]) (mm := m_make_steps) rfl ht e (cf_refs _) ((gr_steps st _).cf hf)
  simp [m_steps_on, g_steps_on, l]
theorem checked_steps_go {sub : List Str} (hs : sub.Sublist words8) {p : List (List Ins)} (hp : POk p) {st : Sto} (ht : st.any (SO.isTab "steps_on") = true) (hf : Cf st) :
    m_checked_steps [.tup (sub.map D.str), encP p] st = .ok (.lst ((List.range' st.length (stepsFrom (mustM sub) 0 0 p).length).map D.ref)) (st ++ (stepsFrom (mustM sub) 0 0 p).map stepSO) := by
  simp [m_checked_steps, g_checked_steps, check_design_go hs, check_program_go hp, steps_on_go hs hp ht hf]
end K03

set_option Elab.async false
set_option linter.all false
set_option maxRecDepth 100000
set_option maxHeartbeats 4000000
namespace K03
open PySem PySem.Spec L2 DL CM
open PyProof.Rows hiding St
theorem parts_comp (ρ : DL.Env) (h5 : ρ.length = 5) (st : Sto) : ∀ l : List Nat, (∀ k ∈ l, k ≤ 10) → compGo ρ (.nm 4) gYes (gCall m_is_number (aCons (gVar 4) (aCons (gC (.int (10))) aNil))) (l.map natD) st = .ok (l.map fun _ => D.bl true) st
  | [], _ => rfl
  | k :: l, h => by
    have ih := parts_comp ρ h5 st l fun j hj => h j (List.mem_cons_of_mem _ hj)
    have hk := h k List.mem_cons_self
    have e : ∀ st, m_is_number [natD k, .int 10] st = .ok (.bl true) st := fun st => by
      rw [natD, number_go, decide_eq_true (by omega)]
    have v4 : ∀ z st, gVar 4 (ρ.set 4 (some z)) st = .ok z st := fun z st => gv (by rw [List.getElem?_set_self (by omega)])
    simp [k_nm, v4, e, ih, -List.map_const']
section
variable {st : Sto} {S : List SM} {e : Nat × Nat} {k : Nat} {s : SM} (he : IsAt S e k s)
include he
theorem num_loop {a : Option D} (z : Option D) : ∀ (rs : List Nat) (j0 : Nat), (∀ (j r : Nat), rs[j]? = some r → ∃ s', S[j0 + j]? = some s' ∧ st[r]? = some (stepSO s')) → j0 ≤ k → k < j0 + rs.length → ∀ x y : Option D,
    forGo (.tp [(.nm 2), (.nm 3)]) (sIf (gBl (gOp mEq (gFld "Step" "event" (gVar 3)) (gVar 1))) (sRet (gVar 2)) sNext) (enumD j0 (rs.map D.ref)) [a, some (encE e), x, y, z] st = .ok (.rt (natD k)) st
  | [], j0, _, h1, h2, _, _ => by simp at h2; omega
  | r :: rs, j0, h, h1, h2, x, y => by
    obtain ⟨s', e1, e2⟩ := h 0 r rfl
    have e1 : S[j0]? = some s' := e1
    have q := eqE s' e
    have o1 : okD (.tup [natD s'.c, natD s'.p]) = true := by simp [natD]
    have o2 : okD (encE e) = true := by simp [encE, natD]
    by_cases hk : j0 = k
    · subst hk
      have hs : s' = s := by
        have := he.at_
        rw [e1] at this
        exact Option.some.inj this
      rw [hs] at q o1 e2
      rw [he.is] at q
      simp [enumD, forGo, Pat.set, Pats.set, fld_at e2, q, o1, o2, -q_tup, -ok_tup, natD]
      simp only [natD] at q o1
      simp [q, o1, o2, -q_tup, -ok_tup]
    · have hf := he.first j0 s' (by omega) e1
      rw [hf] at q
      have ih := num_loop (a := a) z rs (j0 + 1) (fun j r' hj => by
        obtain ⟨s2, a, b⟩ := h (j + 1) r' (by simpa using hj)
        exact ⟨s2, by rw [← a]; congr 1; omega, b⟩) (by omega) (by simp at h2; omega) (some (.int (j0 : Int))) (some (.ref r))
      simp only [natD] at q o1
      simp [enumD, forGo, Pat.set, Pats.set, fld_at e2, q, o1, o2, -q_tup, -ok_tup, natD]
      simp only [natD] at ih
      simp [q, o1, o2, -q_tup, -ok_tup, ih]
theorem number_of_go {rs : List Nat} (h : SAt st rs S) (h1 : e.1 ≤ 10) (h2 : e.2 ≤ 10) : m_number_of [.lst (rs.map D.ref), encE e] st = .ok (natD k) st := by
  have hk : k < S.length := (List.getElem?_eq_some_iff.mp he.at_).1
  have e1 := num_loop he (st := st) (a := some (.lst (rs.map D.ref))) none rs 0 (fun j r hj => by
    have hl : j < S.length := by
      rw [← h.len]
      exact (List.getElem?_eq_some_iff.mp hj).1
    exact ⟨S[j], by rw [Nat.zero_add]; exact List.getElem?_eq_getElem hl, h.at_ j r _ hj (List.getElem?_eq_getElem hl)⟩) (Nat.zero_le _) (by rw [Nat.zero_add, h.len]; exact hk) none none
  have e2 := parts_comp [some (.lst (rs.map D.ref)), some (encE e), none, none, none] rfl st [e.1, e.2] (by intro j hj; simp at hj; omega)
  simp only [List.map_cons, List.map_nil, natD, encE] at e1 e2 ⊢
  simp [m_number_of, g_number_of, isiB, e1, e2]
end
theorem row_loop {S : List SM} {rs : List Nat} (hS : ∀ s ∈ S, SIn S.length s) (hz : S.length ≤ 1000) {a b : Option D} : ∀ (es : List (Nat × Nat)) (k0 : Nat) (w w' : List (Option Int)) (c c' : List Int) (st : Sto), SAt st rs S → w.length = S.length → c.length = 3 → (∀ e ∈ es, e.1 ≤ 10 ∧ e.2 ≤ 10) → RunTo S es w c w' c' → ∀ x y z : Option D, a = some (.lst (rs.map D.ref)) → ∃ st' x' y' z',
    forGo (.tp [(.nm 3), (.nm 4)]) (sSeq (sSet 5 (gCall m_number_of (aCons (gVar 0) (aCons (gVar 4) aNil)))) (sSeq (sIf (gBl (gOp (mIn true) (gVar 5) (gCall m_steps_now (aCons (gVar 0) (aCons (gVar 2) aNil))))) sBad sNext) (sSet 2 (gCall m_state_behind (aCons (gVar 0) (aCons (gVar 2) (aCons (gVar 5) aNil))))))) (enumD k0 (es.map encE)) [a, b, some (encSt w c), x, y, z] st
      = .ok (.nx [a, b, some (encSt w' c'), x', y', z']) st' ∧ Gr st st' ∧ w'.length = S.length ∧ c'.length = 3
  | [], k0, w, w', c, c', st, h, hw, hc, _, hr, x, y, z, _ => by
    cases hr
    exact ⟨st, x, y, z, rfl, Gr.refl _, hw, hc⟩
  | e :: es, k0, w, w', c, c', st, h, hw, hc, hb, hr, x, y, z, ha => by
    cases hr with
    | cons h1 h2 h3 h4 =>
      rename_i k s
      subst ha
      have b1 := hb e List.mem_cons_self
      have hS' : ∀ s ∈ S, SIn w.length s := fun s hs => by rw [hw]; exact hS s hs
      have g1 := number_of_go h1 h b1.1 b1.2
      have g2 := steps_now_go h hw hS' c
      have g3 := state_behind_go h hw hS' hz hc h1.at_ h3
      have gg : Gr st (st ++ [.lst ((behindM S w c k).1.map encW), .lst ((behindM S w c k).2.map D.int)]) := gr_two st _ _
      obtain ⟨l1, l2⟩ := behind_len (S := S) (w := w) (c := c) (k := k)
      obtain ⟨st', x', y', z', e1, e2, e3⟩ := row_loop hS hz (b := b) es (k0 + 1) _ w' _ c' _ (h.gr gg) (l1.trans hw) (l2.trans hc) (fun d hd => hb d (List.mem_cons_of_mem _ hd)) h4 (some (natD k0)) (some (encE e)) (some (natD k)) rfl
      refine ⟨st', x', y', z', ?_, gg.trans e2, e3⟩
      have mi : mIn true (natD k) (.lst ((nowM S w).map natD)) st = some (.bl false) := by
        rw [in_lst]
        have o1 : okD (natD k) = true := by simp [natD]
        have o2 : okD (.lst ((nowM S w).map natD)) = true := by
          rw [ok_lst, List.all_map, List.all_eq_true]
          intro j _
          simp [natD]
        have o3 : (((nowM S w).map natD).any fun z => eqD z (natD k)) = true := by
          rw [List.any_map, List.any_eq_true]
          exact ⟨k, h2, by simp [natD]⟩
        rw [o1, o2, o3]
        rfl
      simp only [natD] at g1 g3 e1 mi
      simp [enumD, forGo, Pat.set, Pats.set, g1, g2, g3, mi, e1, natD]
theorem state_behind_row_go {S : List SM} {rs : List Nat} (hS : ∀ s ∈ S, SIn S.length s) (hz : S.length ≤ 1000) {es : List (Nat × Nat)} (h10 : es.length ≤ 10) {w' : List (Option Int)} {c' : List Int} {st : Sto} (h : SAt st rs S) (hb : ∀ e ∈ es, e.1 ≤ 10 ∧ e.2 ≤ 10) (hr : RunTo S es (List.replicate S.length none) [0, 0, 0] w' c') :
    ∃ st', m_state_behind_row [.lst (rs.map D.ref), .tup (es.map encE)] st = .ok (encSt w' c') st' ∧ Gr st st' ∧ w'.length = S.length ∧ c'.length = 3 := by
  obtain ⟨st', x', y', z', e1, e2, e3⟩ := row_loop hS hz (b := some (.tup (es.map encE))) es 0 _ w' _ c' st h List.length_replicate rfl hb hr none none none rfl
  refine ⟨st', ?_, e2, e3⟩
  have f := first_state_go (n := S.length) hz (l := rs.map D.ref) (by rw [List.length_map]; exact h.len) st
  have g : ¬ (10 : Int) < es.length := by omega
  simp [m_state_behind_row, g_state_behind_row, isiB, g, f, e1, -List.map_replicate]
end K03

set_option Elab.async false
set_option linter.all false
set_option maxRecDepth 100000
set_option maxHeartbeats 4000000
namespace K03
open PySem PySem.Spec L2 DL CM
open PyProof.Rows hiding St
theorem ev_comp {st : Sto} {S : List SM} {rs : List Nat} (h : SAt st rs S) (ρ : DL.Env) (h6 : ρ.length = 6) (r3 : ρ[3]? = some (some (.lst (rs.map D.ref)))) : ∀ l : List Nat, (∀ k ∈ l, k < S.length) →
    compGo ρ (.nm 5) gYes (gFld "Step" "event" (gOp mIx (gVar 3) (gVar 5))) (l.map natD) st = .ok ((l.map (evOf S)).map encE) st
  | [], _ => rfl
  | k :: l, hl => by
    have ih := ev_comp h ρ h6 r3 l fun j hj => hl j (List.mem_cons_of_mem _ hj)
    have hk := hl k List.mem_cons_self
    have hkr : k < rs.length := by
      rw [h.len]
      exact hk
    have xr : atI (rs.map D.ref) ((k : Nat) : Int) = some (.ref rs[k]) := atI_nat (by simp [hkr])
    have hr := h.at_ k _ S[k] (List.getElem?_eq_getElem hkr) (List.getElem?_eq_getElem hk)
    have v3 : ∀ z st, gVar 3 (ρ.set 5 z) st = .ok (.lst (rs.map D.ref)) st := fun z st => gv (by rw [List.getElem?_set_ne (by decide), r3])
    have v5 : ∀ z st, gVar 5 (ρ.set 5 (some z)) st = .ok z st := fun z st => gv (by rw [List.getElem?_set_self (by omega)])
    have ee : encE (evOf S k) = .tup [natD S[k].c, natD S[k].p] := by
      unfold evOf
      rw [List.getElem?_eq_getElem hk]
      rfl
    rw [List.map_cons, List.map_cons, List.map_cons, ee]
    simp only [natD] at ih ⊢
    simp [k_nm, v3, v5, xr, fld_at hr, ih, natD, -List.map_map]
section
variable {sub : List Str} (hs : sub.Sublist words8) {p : List (List Ins)} (hp : POk p) {st : Sto} (ht : st.any (SO.isTab "steps_on") = true) (hf : Cf st) {es : List (Nat × Nat)} (h10 : es.length ≤ 10) (hb : ∀ e ∈ es, e.1 ≤ 10 ∧ e.2 ≤ 10) {w : List (Option Int)} {c : List Int} (hr : RunTo (stepsFrom (mustM sub) 0 0 p) es (List.replicate (stepsFrom (mustM sub) 0 0 p).length none) [0, 0, 0] w c)
include hs hp ht hf h10 hb hr
theorem behind_all : ∃ st', m_checked_steps [.tup (sub.map D.str), encP p] st = .ok (.lst ((List.range' st.length (stepsFrom (mustM sub) 0 0 p).length).map D.ref)) (st ++ (stepsFrom (mustM sub) 0 0 p).map stepSO) ∧
    m_state_behind_row [.lst ((List.range' st.length (stepsFrom (mustM sub) 0 0 p).length).map D.ref), .tup (es.map encE)] (st ++ (stepsFrom (mustM sub) 0 0 p).map stepSO) = .ok (encSt w c) st' ∧ Gr st st' ∧ SAt st' (List.range' st.length (stepsFrom (mustM sub) 0 0 p).length) (stepsFrom (mustM sub) 0 0 p) ∧
    w.length = (stepsFrom (mustM sub) 0 0 p).length ∧ c.length = 3 ∧ (stepsFrom (mustM sub) 0 0 p).length ≤ 10 ∧ ∀ s ∈ stepsFrom (mustM sub) 0 0 p, SIn (stepsFrom (mustM sub) 0 0 p).length s := by
  have e1 := checked_steps_go hs hp ht hf
  have hl := stepsFrom_len (mustM sub) p 0 0
  have hl10 : (stepsFrom (mustM sub) 0 0 p).length ≤ 10 := by
    rw [hl]
    exact hp.all
  have hS : ∀ s ∈ stepsFrom (mustM sub) 0 0 p, SIn (stepsFrom (mustM sub) 0 0 p).length s := sin_from p 0 0 _ hp.ins (by rw [hl]; omega)
  have g1 := gr_steps st (stepsFrom (mustM sub) 0 0 p)
  have sa := sat_new st (stepsFrom (mustM sub) 0 0 p)
  obtain ⟨st', e2, g2, l1, l2⟩ := state_behind_row_go hS (by omega) h10 sa hb hr
  exact ⟨st', e1, e2, g1.trans g2, sa.gr g2, l1, l2, hl10, hS⟩
theorem events_behind_go : ∃ st', m_events_behind [.tup (sub.map D.str), encP p, .tup (es.map encE)] st = .ok (.tup (((nowM (stepsFrom (mustM sub) 0 0 p) w).map (evOf (stepsFrom (mustM sub) 0 0 p))).map encE)) st' ∧ Gr st st' := by
  obtain ⟨st', e1, e2, g, sa, l1, l2, hl10, hS⟩ := behind_all hs hp ht hf h10 hb hr
  refine ⟨st', ?_, g⟩
  have e3 := steps_now_go sa l1 (fun s h => by rw [l1]; exact hS s h) c
  have e4 := ev_comp sa [some (.tup (sub.map D.str)), some (encP p), some (.tup (es.map encE)), some (.lst ((List.range' st.length (stepsFrom (mustM sub) 0 0 p).length).map D.ref)), some (encSt w c), none] rfl rfl (nowM (stepsFrom (mustM sub) 0 0 p) w) fun k hk => List.mem_range.mp (List.mem_filter.mp hk).1
  simp [m_events_behind, g_events_behind, e1, e2, e3, e4, -List.map_map]
theorem has_ended_go : ∃ st', m_has_ended [.tup (sub.map D.str), encP p, .tup (es.map encE)] st = .ok (.bl (overM w)) st' ∧ Gr st st' := by
  obtain ⟨st', e1, e2, g, sa, l1, l2, hl10, hS⟩ := behind_all hs hp ht hf h10 hb hr
  refine ⟨st', ?_, g⟩
  simp [m_has_ended, g_has_ended, e1, e2, is_over_go, -List.map_map]
end
end K03

set_option Elab.async false
set_option linter.all false
set_option maxRecDepth 100000
set_option maxHeartbeats 4000000
namespace K03
open PySem PySem.Spec L2 DL CM
open PyProof.Rows hiding St
theorem reg_comp (ρ : DL.Env) : ∀ (l : List D) (st : Sto), compGo ρ (.nm 6) gYes (gLstM (aCons (gC (.int 0)) (aCons (gC (.int 0)) aNil))) l st = .ok ((List.range' st.length l.length).map D.ref) (st ++ (List.replicate l.length [(0 : Int), 0]).map regSO)
  | [], st => by simp
  | d :: l, st => by
    have ih := reg_comp ρ l (st ++ [regSO [0, 0]])
    rw [List.length_append, List.length_cons, List.length_nil] at ih
    rw [List.length_cons, List.range'_succ, List.replicate_succ, k_nm]
    simp only [regSO, List.map_cons, List.map_nil] at ih ⊢
    simp [ih, -List.map_replicate]
abbrev regBody : G Fl := (sIf (gTAnd (gTr (gCall m_is_reading (aCons (gFld "Step" "instruction" (gVar 4)) aNil))) (gBl (gOp mNe (gVar 5) (gC (.int (-1)))))) (sPut (gOp mIx (gVar 3) (gOp mIx (gFld "Step" "event" (gVar 4)) (gC (.int 0)))) (gOp mIx (gFld "Step" "instruction" (gVar 4)) (gC (.int 1))) (gVar 5)) sNext)
theorem reg_loop {st : Sto} {a b s0 z6 z7 : Option D} : ∀ (rs : List Nat) (S : List SM) (w : List (Option Int)) (R : List (List Int)), rs.length = S.length → w.length = S.length → (∀ (j r : Nat) (s : SM), rs[j]? = some r → S[j]? = some s → st[r]? = some (stepSO s)) → (∀ s ∈ S, s.c < R.length ∧ s.ins.ok) → (∀ o ∈ w, o.isSome = true) → (∀ l ∈ R, l.length = 2) → R.length ≤ 1000 → ∀ x y : Option D, ∃ x' y',
    forGo (.tp [(.nm 4), (.nm 5)]) regBody (zipD (rs.map D.ref) (w.map encW)) [a, b, s0, some (.lst ((List.range' st.length R.length).map D.ref)), x, y, z6, z7] (st ++ R.map regSO)
      = .ok (.nx [a, b, s0, some (.lst ((List.range' st.length R.length).map D.ref)), x', y', z6, z7]) (st ++ (regsM S w R).map regSO)
  | [], [], [], R, _, _, _, _, _, _, _, x, y => ⟨x, y, rfl⟩
  | [], _ :: _, _, _, h, _, _, _, _, _, _, _, _ => by simp at h
  | _ :: _, [], _, _, h, _, _, _, _, _, _, _, _ => by simp at h
  | _, [], _ :: _, _, _, h, _, _, _, _, _, _, _ => by simp at h
  | _, _ :: _, [], _, _, h, _, _, _, _, _, _, _ => by simp at h
  | r :: rs, s :: S, o :: w, R, h1, h2, h3, h4, h5, h6, h7, x, y => by
    have hr : st[r]? = some (stepSO s) := h3 0 r s rfl rfl
    obtain ⟨hc, ok⟩ := h4 s List.mem_cons_self
    obtain ⟨v, hv⟩ := Option.isSome_iff_exists.mp (h5 o List.mem_cons_self)
    subst hv
    have hrR := (gr_regs st R).get hr
    have hl := regStep_len (R := R) (so := (s, some v))
    obtain ⟨x', y', ih⟩ := reg_loop (a := a) (b := b) (s0 := s0) (z6 := z6) (z7 := z7) rs S w (regStep R (s, some v)) (by simpa using h1) (by simpa using h2) (fun j r' s' a b => h3 (j + 1) r' s' (by simpa using a) (by simpa using b)) (fun s' hs' => by rw [hl]; exact h4 s' (List.mem_cons_of_mem _ hs')) (fun o' ho' => h5 o' (List.mem_cons_of_mem _ ho')) (regStep_two h6 hc) (by rw [hl]; exact h7) (some (.ref r)) (some (.int v))
    refine ⟨x', y', ?_⟩
    have eM : regsM (s :: S) (some v :: w) R = regsM S w (regStep R (s, some v)) := rfl
    rw [hl] at ih
    rw [eM]
    have vx : eqD (.int v) (.int (-1)) = decide (v = -1) := by
      rw [q_int]
      by_cases h : v = -1 <;> simp [h]
    cases hi : s.ins with
    | rd q z =>
      rw [hi] at ok
      obtain ⟨⟨q0, q1⟩, _⟩ := ok
      by_cases hm : v = -1
      · have e2 : regStep R (s, some v) = R := by simp [regStep, hi, hm]
        rw [e2] at ih ⊢
        simp [forGo, Pat.set, Pats.set, encW, fld_at hrR, hi, reading_go, Ins.isRd, vx, hm]
        rw [hm] at ih
        simpa using ih
      · have e2 : regStep R (s, some v) = R.set s.c ((R.getD s.c []).set q.toNat v) := by simp [regStep, hi, hm]
        rw [e2] at ih ⊢
        have hR : R[s.c]? = some (R.getD s.c []) := by
          rw [List.getD_eq_getElem?_getD, List.getElem?_eq_getElem hc]
          rfl
        have h2' : (R.getD s.c []).length = 2 := by
          rw [List.getD_eq_getElem?_getD, List.getElem?_eq_getElem hc]
          exact h6 _ (List.getElem_mem hc)
        generalize R.getD s.c [] = l at hR h2' ih ⊢
        have xr : atI ((List.range' st.length R.length).map D.ref) ((s.c : Nat) : Int) = some (.ref (st.length + s.c)) := atI_nat (by simp [hc])
        have pu : ∀ ρ, putOut (.ref (st.length + s.c)) (.int q) (.int v) ρ (st ++ R.map regSO) = .ok (.nx ρ) (st ++ (R.set s.c (l.set q.toNat v)).map regSO) := fun ρ => by
          rw [putn_at (regs_at hR) q0 (by rw [List.length_map]; omega), ← regs_set hc, List.map_set]
        simp [forGo, Pat.set, Pats.set, encW, fld_at hrR, hi, reading_go, Ins.isRd, vx, hm, natD, xr, pu, -List.map_set]
        simpa [-List.map_set] using ih
    | wr q z =>
      have e2 : regStep R (s, some v) = R := by simp [regStep, hi]
      rw [e2] at ih ⊢
      simp [forGo, Pat.set, Pats.set, encW, fld_at hrR, hi, reading_go, Ins.isRd]
      simpa using ih
    | cp q z =>
      have e2 : regStep R (s, some v) = R := by simp [regStep, hi]
      rw [e2] at ih ⊢
      simp [forGo, Pat.set, Pats.set, encW, fld_at hrR, hi, reading_go, Ins.isRd]
      simpa using ih
    | fn =>
      have e2 : regStep R (s, some v) = R := by simp [regStep, hi]
      rw [e2] at ih ⊢
      simp [forGo, Pat.set, Pats.set, encW, fld_at hrR, hi, reading_go, Ins.isRd]
      simpa using ih
    | gd q z =>
      have e2 : regStep R (s, some v) = R := by simp [regStep, hi]
      rw [e2] at ih ⊢
      simp [forGo, Pat.set, Pats.set, encW, fld_at hrR, hi, reading_go, Ins.isRd]
      simpa using ih
theorem tup_comp {st : Sto} {R : List (List Int)} (h2 : ∀ l ∈ R, l.length = 2) (ρ : DL.Env) (h8 : ρ.length = 8) : ∀ (n k : Nat), k + n = R.length →
    compGo ρ (.nm 7) gYes (gCB mTuple (aCons (gVar 7) aNil)) ((List.range' (st.length + k) n).map D.ref) (st ++ R.map regSO) = .ok ((R.drop k).map fun l => D.tup (l.map D.int)) (st ++ R.map regSO)
  | 0, k, h => by
    rw [List.drop_eq_nil_of_le (by omega)]
    rfl
  | n + 1, k, h => by
    have hk : k < R.length := by omega
    have ih := tup_comp (st := st) h2 ρ h8 n (k + 1) (by omega)
    have e := regs_at (st := st) (List.getElem?_eq_getElem hk)
    have t := tup_at e (by
      rw [List.length_map, h2 _ (List.getElem_mem hk)]
      show 2 ≤ 1000000
      omega)
    have v7 : ∀ z st, gVar 7 (ρ.set 7 (some z)) st = .ok z st := fun z st => gv (by rw [List.getElem?_set_self (by omega)])
    rw [List.range'_succ, List.map_cons, k_nm, List.drop_eq_getElem_cons hk, List.map_cons]
    simp only [Nat.add_assoc] at ih ⊢
    simp [v7, t, ih, -List.map_drop]
theorem regsM_len : ∀ (S : List SM) (w : List (Option Int)) (R : List (List Int)), (regsM S w R).length = R.length
  | [], _, _ => rfl
  | _ :: _, [], _ => rfl
  | s :: S, o :: w, R => by
    show (regsM S w (regStep R (s, o))).length = _
    rw [regsM_len S w, regStep_len]
theorem regsM_two : ∀ (S : List SM) (w : List (Option Int)) (R : List (List Int)), (∀ s ∈ S, s.c < R.length) → (∀ l ∈ R, l.length = 2) → ∀ l ∈ regsM S w R, l.length = 2
  | [], _, _, _, h => h
  | _ :: _, [], _, _, h => h
  | s :: S, o :: w, R, hc, h => regsM_two S w (regStep R (s, o)) (fun s' hs' => by rw [regStep_len]; exact hc s' (List.mem_cons_of_mem _ hs')) (regStep_two h (hc s List.mem_cons_self))
theorem outcome_go {st : Sto} {rs : List Nat} {S : List SM} (h : SAt st rs S) {w : List (Option Int)} (hw : w.length = S.length) {p : List (List Ins)} (hp : p.length ≤ 3) (hS : ∀ s ∈ S, s.c < p.length ∧ s.ins.ok) (ho : overM w = true) (cells : List Int) :
    ∃ st', m_outcome_of [.lst (rs.map D.ref), encP p, encSt w cells] st = .ok (encO (regsM S w (List.replicate p.length [0, 0])) cells) st' ∧ Gr st st' := by
  refine ⟨st ++ (regsM S w (List.replicate p.length [0, 0])).map regSO, ?_, gr_regs st _⟩
  have hR : ∀ l ∈ List.replicate p.length [(0 : Int), 0], l.length = 2 := fun l hl => by rw [List.eq_of_mem_replicate hl]; rfl
  have e1 := reg_comp [some (.lst (rs.map D.ref)), some (encP p), some (encSt w cells), none, none, none, none, none] (p.map encC) st
  obtain ⟨x', y', e2⟩ := reg_loop (st := st) (a := some (.lst (rs.map D.ref))) (b := some (encP p)) (s0 := some (encSt w cells)) (z6 := none) (z7 := none) rs S w (List.replicate p.length [0, 0]) h.len hw (fun j r s a b => h.at_ j r s a b) (fun s hs => by rw [List.length_replicate]; exact hS s hs) (fun o hm => List.all_eq_true.mp ho o hm) hR (by rw [List.length_replicate]; omega) none none
  have e3 := tup_comp (st := st) (R := regsM S w (List.replicate p.length [0, 0])) (regsM_two S w _ (fun s hs => by rw [List.length_replicate]; exact (hS s hs).1) hR) [some (.lst (rs.map D.ref)), some (encP p), some (encSt w cells), some (.lst ((List.range' st.length p.length).map D.ref)), x', y', none, none] rfl p.length 0 (by rw [regsM_len, List.length_replicate, Nat.zero_add])
  rw [List.length_map] at e1
  rw [List.length_replicate] at e2
  rw [List.drop_zero, Nat.add_zero] at e3
  simp only [encP, encSt, encWs] at e1 e2 e3 ⊢
  simp [m_outcome_of, g_outcome_of, e1, e2, e3, encO, encR, -List.map_replicate, -List.map_map]
section
variable {sub : List Str} (hs : sub.Sublist words8) {p : List (List Ins)} (hp : POk p) {st : Sto} (ht : st.any (SO.isTab "steps_on") = true) (hf : Cf st) {es : List (Nat × Nat)} (h10 : es.length ≤ 10) (hb : ∀ e ∈ es, e.1 ≤ 10 ∧ e.2 ≤ 10) {w : List (Option Int)} {c : List Int} (hr : RunTo (stepsFrom (mustM sub) 0 0 p) es (List.replicate (stepsFrom (mustM sub) 0 0 p).length none) [0, 0, 0] w c)
include hs hp ht hf h10 hb hr
theorem told_by_go (ho : overM w = true) : ∃ st', m_told_by [.tup (sub.map D.str), encP p, .tup (es.map encE)] st = .ok (encO (regsM (stepsFrom (mustM sub) 0 0 p) w (List.replicate p.length [0, 0])) c) st' ∧ Gr st st' := by
  obtain ⟨st', e1, e2, g, sa, l1, l2, hl10, hS⟩ := behind_all hs hp ht hf h10 hb hr
  obtain ⟨st2, e3, g2⟩ := outcome_go sa l1 hp.n3 (fun s hs => ⟨by have := c_from p 0 0 s hs; omega, (hS s hs).ok⟩) ho c
  refine ⟨st2, ?_, g.trans g2⟩
  have o := is_over_go w c
  rw [ho] at o
  simp [m_told_by, g_told_by, e1, e2, o, e3, -List.map_map, -List.map_replicate]
theorem told_by_not (ho : overM w = false) : ∃ st', m_told_by [.tup (sub.map D.str), encP p, .tup (es.map encE)] st = .exn ⟨"NotMade", none⟩ st' ∧ Gr st st' := by
  obtain ⟨st', e1, e2, g, sa, l1, l2, hl10, hS⟩ := behind_all hs hp ht hf h10 hb hr
  refine ⟨st', ?_, g⟩
  have o := is_over_go w c
  rw [ho] at o
  simp [m_told_by, g_told_by, e1, e2, o, sRaise, -List.map_map]
end
end K03

set_option Elab.async false
set_option linter.all false
set_option maxRecDepth 100000
set_option maxHeartbeats 4000000
namespace K03
open PySem PySem.Spec L2 DL CM
open PyProof.Rows hiding St
section
variable {st : Sto} {b : Nat} {sub : List Str} {p : List (List Ins)} {R : RunM} (h : RunAt st b sub p R) (hp : POk p) {c : Nat} {core : List Ins} (hc : p[c]? = some core)
include h hp hc
theorem law_word_go {place : Nat} (hpl : place ≤ core.length) (name : Int) : m__law_word [.ref (b + p.length + 1), natD c, natD place, .int name] st = .ok (.int (wordR R c core place name)) st := by
  have hm := List.mem_of_getElem? hc
  have hcl : c < p.length := (List.getElem?_eq_some_iff.mp hc).1
  have h5 := hp.c5 core hm
  have e1 := law_last_rd (hp.ins core hm) (k := place) hpl (by omega) name st
  have i1 := core_at hc st
  have i2 := refs_at (a := b + p.length + 2) hcl st
  have ht : R.took[c]? = some (R.took.getD c []) := by
    rw [List.getD_eq_getElem?_getD, List.getElem?_eq_getElem (by rw [h.nt]; exact hcl)]
    rfl
  have hk := h.tk c _ ht
  have kp := fun z => ixK_s (z := z) h.d
  simp only [encC] at i1 e1
  cases e : lastP (rdP name) core place with
  | none =>
    have hl : lastL (rdP name) core place = [] := by unfold lastL; rw [e]
    rw [hl] at e1
    simp only [natD] at i1 ⊢
    simp [m__law_word, g__law_word, kp, i1, e1, wordR, e]
  | some m =>
    have hl : lastL (rdP name) core place = [.int (m : Int)] := by unfold lastL; rw [e]
    rw [hl] at e1
    have g1 : ∀ fi fx ρ, kGet1 fi fx ρ (.ref (b + p.length + 2 + c)) st = (fi ρ st).bind (kGet2 fx ρ (.ref (b + p.length + 2 + c))) := fun fi fx ρ => get1_at hk
    have g2 : ∀ x, getKOut (.ref (b + p.length + 2 + c)) (.int (m : Int)) x st = .ok ((luK (tookK (R.took.getD c [])) (.inl (m : Int))).getD x) st := fun x => getK_i hk
    simp only [natD] at i1 i2 ⊢
    simp [m__law_word, g__law_word, kp, i1, i2, e1, wordR, e, g1, g2, lu_took]
theorem law_written_go {place : Nat} {i : Ins} (hi : core[place]? = some i) (hw : i.isWr = true) : m__law_written [.ref (b + p.length + 1), natD c, natD place] st = .ok (.int (writtenR R c core place i)) st := by
  have i1 := core_at hc st
  have hpl : place < core.length := (List.getElem?_eq_some_iff.mp hi).1
  have i3 : mIx (encC core) (natD place) st = some i.enc := by
    show atI (core.map Ins.enc) _ = _
    exact atI_nat (by rw [List.getElem?_map, hi]; rfl)
  have kp := fun z => ixK_s (z := z) h.d
  have w := fun n => law_word_go h hp hc (Nat.le_of_lt hpl) n
  simp only [natD] at i1 i3 w ⊢
  cases i with
  | wr x n =>
    have hx : mIx (Ins.wr x n).enc (.int 2) st = some (.int n) := rfl
    simp [m__law_written, g__law_written, kp, i1, i3, Ins.kind, hx, writtenR]
  | cp x r => simp [m__law_written, g__law_written, kp, i1, i3, Ins.kind, w, writtenR]
  | rd x n => simp [Ins.isWr] at hw
  | fn => simp [Ins.isWr] at hw
  | gd x n => simp [Ins.isWr] at hw
end
end K03

set_option Elab.async false
set_option linter.all false
set_option maxRecDepth 100000
set_option maxHeartbeats 4000000
namespace K03
open PySem PySem.Spec L2 DL CM
open PyProof.Rows hiding St
section
variable {st : Sto} {b : Nat} {sub : List Str} (hs : sub.Sublist words8) {p : List (List Ins)} {R : RunM} (h : RunAt st b sub p R) (hp : POk p) (hR : RLen p R) {c : Nat} {core : List Ins} (hc : p[c]? = some core)
include hs h hp hR hc
theorem can_comp {place : Nat} (hpl : place < core.length) (ρ : DL.Env) (h7 : ρ.length = 7) (r0 : ρ[0]? = some (some (.ref (b + p.length + 1)))) (r2 : ρ[2]? = some (some (natD place))) (r3 : ρ[3]? = some (some (encC core))) (r4 : ρ[4]? = some (some (.ref (b + c)))) : ∀ l : List Nat, (∀ j ∈ l, j < place) →
    compGo ρ (.nm 6) (gTAnd (gTNot (gTr (gOp mIx (gVar 4) (gVar 6)))) (gTr (gCall m__law_must (aCons (gOp mIxK (gVar 0) (gC (.str "design"))) (aCons (gVar 3) (aCons (gVar 6) (aCons (gVar 2) aNil))))))) (gVar 6) (l.map natD) st
      = .ok ((l.filter fun j => !dAt R c j && mustM sub core j place).map natD) st
  | [], _ => rfl
  | j :: l, hl => by
    have ih := can_comp hpl ρ h7 r0 r2 r3 r4 l fun x hx => hl x (List.mem_cons_of_mem _ hx)
    have hj := hl j List.mem_cons_self
    have hm := List.mem_of_getElem? hc
    have hcl : c < p.length := (List.getElem?_eq_some_iff.mp hc).1
    have ha : core[j]? = some (core[j]'(by omega)) := List.getElem?_eq_getElem _
    have hb : core[place]? = some core[place] := List.getElem?_eq_getElem _
    have em : m__law_must [.tup (sub.map D.str), encC core, natD j, natD place] st = .ok (.bl (mustM sub core j place)) st := by
      have e := law_must_go hs (hp.ins core hm) (hp.c5 core hm) hj hpl st ha hb
      have e2 : mustM sub core j place = (keptB sub core j place (core[j]'(by omega)) core[place] || wB sub core j place core[place]) := by
        unfold mustM
        rw [ha, hb]
      rw [e2]
      exact e
    have mk := h.mark_at hcl (j := j) (by rw [hR c core hc]; omega)
    have v0 : ∀ z st, gVar 0 (ρ.set 6 z) st = .ok (.ref (b + p.length + 1)) st := fun z st => gv (by rw [List.getElem?_set_ne (by decide), r0])
    have v2 : ∀ z st, gVar 2 (ρ.set 6 z) st = .ok (natD place) st := fun z st => gv (by rw [List.getElem?_set_ne (by decide), r2])
    have v3 : ∀ z st, gVar 3 (ρ.set 6 z) st = .ok (encC core) st := fun z st => gv (by rw [List.getElem?_set_ne (by decide), r3])
    have v4 : ∀ z st, gVar 4 (ρ.set 6 z) st = .ok (.ref (b + c)) st := fun z st => gv (by rw [List.getElem?_set_ne (by decide), r4])
    have v6 : ∀ z st, gVar 6 (ρ.set 6 (some z)) st = .ok z st := fun z st => gv (by rw [List.getElem?_set_self (by omega)])
    have kp := fun z => ixK_s (z := z) h.d
    cases hd : dAt R c j <;> rw [hd] at mk <;> cases hmu : mustM sub core j place <;> rw [hmu] at em <;> simp [k_nm, v0, v2, v3, v4, v6, kp, mk, em, ih, hd, hmu, -List.map_map]
theorem law_can_go {place : Nat} {i : Ins} (hi : core[place]? = some i) : m__law_can [.ref (b + p.length + 1), natD c, natD place] st = .ok (.bl (canR sub R c core place i)) st := by
  have hpl : place < core.length := (List.getElem?_eq_some_iff.mp hi).1
  have hm := List.mem_of_getElem? hc
  have hcl : c < p.length := (List.getElem?_eq_some_iff.mp hc).1
  have h5 := hp.c5 core hm
  have hlen := hR c core hc
  have i1 := core_at hc st
  have i2 := refs_at (a := b) hcl st
  have i3 : mIx (encC core) (natD place) st = some i.enc := by
    show atI (core.map Ins.enc) _ = _
    exact atI_nat (by rw [List.getElem?_map, hi]; rfl)
  have kp := fun z => ixK_s (z := z) h.d
  have mk := h.mark_at hcl (j := place) (by rw [hlen]; exact hpl)
  have en := h.end_at hcl
  have e1 := can_comp hs h hp hR hc hpl [some (.ref (b + p.length + 1)), some (natD c), some (natD place), some (encC core), some (.ref (b + c)), none, none] rfl rfl rfl rfl rfl (List.range place) fun j hj => List.mem_range.mp hj
  have r1 : ∀ ρ, ρ[2]? = some (some (natD place)) → gRange1 (aCons (gVar 2) aNil) ρ st = .ok ((List.range place).map natD) st := fun ρ r => by
    have e0 : gRange1 (aCons (gVar 2) aNil) ρ st = (aCons (gVar 2) aNil ρ st).bind kRange1 := rfl
    have e2 : aCons (gVar 2) aNil ρ st = .ok [natD place] st := by simp [gv r]
    have e3 : mRange1 [natD place] = some ((List.range place).map natD) := by
      rw [show natD place = .int (place : Int) from rfl, o_rg1, if_pos (by omega)]
      exact congrArg some (by simp [intsD, natD])
    rw [e0, e2]
    show oout (mRange1 [natD place]) st = _
    rw [e3]
    rfl
  have w := fun n => law_word_go h hp hc (Nat.le_of_lt hpl) n
  have nn := ne_nil ((List.range place).filter fun j => !dAt R c j && mustM sub core j place) st
  have hall : ((List.range place).filter fun j => !dAt R c j && mustM sub core j place).isEmpty = ((List.range place).all fun j => dAt R c j || !mustM sub core j place) := by
    rw [Bool.eq_iff_iff, List.isEmpty_iff, List.filter_eq_nil_iff, List.all_eq_true]
    constructor
    · intro z j hj
      have := z j hj
      cases h1 : dAt R c j <;> cases h2 : mustM sub core j place <;> simp [h1, h2] at this ⊢
    · intro z j hj
      have := z j hj
      cases h1 : dAt R c j <;> cases h2 : mustM sub core j place <;> simp [h1, h2] at this ⊢
  rw [hall] at nn
  have sl : mSl (.ref (b + c)) (some ((place : Int) + 1)) none st = some (.lst (((doneR R c).drop (place + 1)).map D.bl)) := by
    have hd := h.done hcl
    show (match st[b + c]? with
      | some (.lst l) => if l.length ≤ LIM then some (D.lst (DL.cutD l (some ((place : Int) + 1)) none)) else none
      | _ => none) = _
    rw [hd]
    show (if _ then _ else _) = _
    rw [if_pos (by
      rw [List.length_map, hlen]
      show _ ≤ 1000000
      omega)]
    rw [show ((place : Int) + 1) = ((place + 1 : Nat) : Int) from rfl, cut_drop (by rw [List.length_map, hlen]; omega), List.map_drop]
  have inn : mIn true (.bl true) (.lst (((doneR R c).drop (place + 1)).map D.bl)) st = some (.bl (!((doneR R c).drop (place + 1)).contains true)) := by
    rw [in_lst, bl_in, ok_lst, bls_okB]
    rfl
  have gE : ∀ ρ, ρ[0]? = some (some (.ref (b + p.length + 1))) → ρ[1]? = some (some (natD c)) → ρ[2]? = some (some (natD place)) → ρ[3]? = some (some (encC core)) →
      gAnd (gOp mEq (gOp mIx (gOp mIx (gVar 3) (gVar 2)) (gC (.int 0))) (gC (.str "guard"))) (gOp mNe (gCall m__law_word (aCons (gVar 0) (aCons (gVar 1) (aCons (gVar 2) (aCons (gOp mIx (gOp mIx (gVar 3) (gVar 2)) (gC (.int 1))) aNil))))) (gOp mIx (gOp mIx (gVar 3) (gVar 2)) (gC (.int 2)))) ρ st = .ok (.bl (endsR R c core place i)) st := fun ρ a0 a1 a2 a3 => by
    cases i with
    | gd r n =>
      have hx : mIx (Ins.gd r n).enc (.int 2) st = some (.int n) := rfl
      by_cases hwn : wordR R c core place r = n <;> simp [gv a0, gv a1, gv a2, gv a3, i3, Ins.kind, w, hx, endsR, hwn]
    | rd r n => simp [gv a0, gv a1, gv a2, gv a3, i3, Ins.kind, endsR]
    | wr r n => simp [gv a0, gv a1, gv a2, gv a3, i3, Ins.kind, endsR]
    | cp r n => simp [gv a0, gv a1, gv a2, gv a3, i3, Ins.kind, endsR]
    | fn => simp [gv a0, gv a1, gv a2, gv a3, i3, Ins.kind, endsR]
  have gE1 := gE [some (.ref (b + p.length + 1)), some (natD c), some (natD place), some (encC core), some (.ref (b + c)), none, none] rfl rfl rfl rfl
  have r1' := r1 [some (.ref (b + p.length + 1)), some (natD c), some (natD place), some (encC core), some (.ref (b + c)), none, none] rfl
  unfold canR
  cases hd : dAt R c place with
  | true =>
    rw [hd] at mk
    simp [m__law_can, g__law_can, patOut, Pat.set, Pats.set, kp, i1, i2, mk]
  | false =>
    rw [hd] at mk
    by_cases hen : (place : Int) ≤ R.ends.getD c 0
    · have hg : mGt (natD place) (.int (R.ends.getD c 0)) st = some (.bl false) := by
        rw [natD, o_gt, decide_eq_false (by omega)]
      rw [decide_eq_true hen]
      cases ha : ((List.range place).all fun j => dAt R c j || !mustM sub core j place) with
      | false =>
        rw [ha] at nn
        simp [m__law_can, g__law_can, patOut, Pat.set, Pats.set, kp, i1, i2, mk, en, hg, e1, r1', nn, -e_Range1, -o_gt, -List.map_map, -List.getD_eq_getElem?_getD, -o_ne]
      | true =>
        rw [ha] at nn
        have pa : mAdd (natD place) (.int 1) st = some (.int ((place : Int) + 1)) := rfl
        cases hq : endsR R c core place i with
        | false =>
          rw [hq] at gE1
          simp [m__law_can, g__law_can, patOut, Pat.set, Pats.set, kp, i1, i2, mk, en, hg, e1, r1', nn, gE1, -e_And, -e_Range1, -o_gt, -List.map_map, -List.getD_eq_getElem?_getD, -o_ne]
        | true =>
          rw [hq] at gE1
          simp [m__law_can, g__law_can, patOut, Pat.set, Pats.set, kp, i1, i2, mk, en, hg, e1, r1', nn, gE1, pa, sl, inn, -e_And, -e_Range1, -o_gt, -List.map_map, -List.map_drop, -List.getD_eq_getElem?_getD, -o_ne]
    · have hg : mGt (natD place) (.int (R.ends.getD c 0)) st = some (.bl true) := by
        rw [natD, o_gt, decide_eq_true (by omega)]
      rw [decide_eq_false hen]
      simp [m__law_can, g__law_can, patOut, Pat.set, Pats.set, kp, i1, i2, mk, en, hg, -o_gt, -List.getD_eq_getElem?_getD]
end
end K03

set_option Elab.async false
set_option linter.all false
set_option maxRecDepth 100000
set_option maxHeartbeats 4000000
namespace K03
open PySem PySem.Spec L2 DL CM
open PyProof.Rows hiding St
section
variable {st : Sto} {b : Nat} {sub : List Str} (hs : sub.Sublist words8) {p : List (List Ins)} {R : RunM} (h : RunAt st b sub p R) (hp : POk p) (hR : RLen p R)
include hs h hp hR
theorem evs_comp {c : Nat} {core : List Ins} (hc : p[c]? = some core) (ρ : DL.Env) (h4 : ρ.length = 4) (r0 : ρ[0]? = some (some (.ref (b + p.length + 1)))) (r2 : ρ[2]? = some (some (natD c))) : ∀ l : List Nat, (∀ j ∈ l, j < core.length) →
    compGo ρ (.nm 3) (gTr (gCall m__law_can (aCons (gVar 0) (aCons (gVar 2) (aCons (gVar 3) aNil))))) (gTupD (aCons (gVar 2) (aCons (gVar 3) aNil))) (l.map natD) st
      = .ok (((l.filter fun j => canR sub R c core j (core.getD j .fn)).map fun j => (c, j)).map encE) st
  | [], _ => rfl
  | j :: l, hl => by
    have ih := evs_comp hc ρ h4 r0 r2 l fun x hx => hl x (List.mem_cons_of_mem _ hx)
    have hj := hl j List.mem_cons_self
    have hi : core[j]? = some (core.getD j .fn) := by
      rw [List.getD_eq_getElem?_getD, List.getElem?_eq_getElem hj]
      rfl
    have e := law_can_go hs h hp hR hc hi
    have v0 : ∀ z st, gVar 0 (ρ.set 3 z) st = .ok (.ref (b + p.length + 1)) st := fun z st => gv (by rw [List.getElem?_set_ne (by decide), r0])
    have v2 : ∀ z st, gVar 2 (ρ.set 3 z) st = .ok (natD c) st := fun z st => gv (by rw [List.getElem?_set_ne (by decide), r2])
    have v3 : ∀ z st, gVar 3 (ρ.set 3 (some z)) st = .ok z st := fun z st => gv (by rw [List.getElem?_set_self (by omega)])
    rw [List.map_cons, List.filter_cons, k_nm]
    cases hcn : canR sub R c core j (core.getD j .fn) <;> rw [hcn] at e <;> simp [v0, v2, v3, e, ih, encE, -List.map_map, -List.getD_eq_getElem?_getD]
theorem evs_loop : ∀ (n c : Nat) (acc : List (Nat × Nat)), c + n = p.length → acc.length + n * 5 ≤ 1000 → ∀ x y : Option D, ∃ x' y',
    forGo (.nm 2) (sSet 1 (gOp mAdd (gVar 1) (gComp [3] (gRange1 (aCons (gCB mLen (aCons (gOp mIx (gOp mIxK (gVar 0) (gC (.str "program"))) (gVar 2)) aNil)) aNil)) (.nm 3) (gTr (gCall m__law_can (aCons (gVar 0) (aCons (gVar 2) (aCons (gVar 3) aNil))))) (gTupD (aCons (gVar 2) (aCons (gVar 3) aNil)))))) ((List.range' c n).map natD) [some (.ref (b + p.length + 1)), some (.lst (acc.map encE)), x, y] st
      = .ok (.nx [some (.ref (b + p.length + 1)), some (.lst ((acc ++ evsFrom sub R c (p.drop c)).map encE)), x', y']) st
  | 0, c, acc, hc, _, x, y => ⟨x, y, by
    rw [List.drop_eq_nil_of_le (by omega)]
    simp [evsFrom, forGo]⟩
  | n + 1, c, acc, hc, hz, x, y => by
    have hcl : c < p.length := by omega
    have hcc : p[c]? = some p[c] := List.getElem?_eq_getElem hcl
    have h5 := hp.c5 p[c] (List.getElem_mem hcl)
    have hev := evC_len (sub := sub) (R := R) (c := c) (core := p[c])
    obtain ⟨x', y', ih⟩ := evs_loop n (c + 1) (acc ++ evC sub R c p[c]) (by omega) (by rw [List.length_append]; omega) (some (natD c)) y
    refine ⟨x', y', ?_⟩
    have e1 := evs_comp hs h hp hR hcc [some (.ref (b + p.length + 1)), some (.lst (acc.map encE)), some (natD c), none] rfl rfl rfl (List.range p[c].length) fun j hj => List.mem_range.mp hj
    have i1 := core_at hcc st
    have kp := fun z => ixK_s (z := z) h.d
    have ln : mLen [encC p[c]] st = some (natD p[c].length) := by simp [encC, natD]
    have r1 : ∀ z, gRange1 (aCons (gCB mLen (aCons (gOp mIx (gOp mIxK (gVar 0) (gC (.str "program"))) (gVar 2)) aNil)) aNil) [some (.ref (b + p.length + 1)), some (.lst (acc.map encE)), some (natD c), z] st = .ok ((List.range p[c].length).map natD) st := fun z =>
      range1_at (by simp [kp, i1, ln]) (by omega)
    have ad : mAdd (.lst (acc.map encE)) (.lst ((evC sub R c p[c]).map encE)) st = some (.lst ((acc ++ evC sub R c p[c]).map encE)) := by
      rw [o_addl, List.length_map, List.length_map, if_pos (by
        show _ ≤ 1000000
        omega), List.map_append]
    have eR : List.range' c (n + 1) = c :: List.range' (c + 1) n := List.range'_succ
    rw [eR, List.map_cons, List.drop_eq_getElem_cons hcl]
    show _ = Out.ok (Fl.nx [_, some (.lst ((acc ++ (evC sub R c p[c] ++ evsFrom sub R (c + 1) (p.drop (c + 1)))).map encE)), _, _]) st
    rw [← List.append_assoc, ← ih]
    unfold evC at ad ⊢
    simp [forGo, Pat.set, r1, e1, ad, -e_Range1, -o_addl, -List.map_map, -List.map_append, -List.getD_eq_getElem?_getD]
theorem law_events_go : m__law_events [.ref (b + p.length + 1)] st = .ok (.lst ((evsFrom sub R 0 p).map encE)) st := by
  have h3 := hp.n3
  obtain ⟨x', y', e⟩ := evs_loop hs h hp hR p.length 0 [] (by omega) (by simp; omega) none none
  have kp := fun z => ixK_s (z := z) h.d
  have ln : mLen [encP p] st = some (natD p.length) := by simp [encP, natD]
  have r1 : gRange1 (aCons (gCB mLen (aCons (gOp mIxK (gVar 0) (gC (.str "program"))) aNil)) aNil) [some (.ref (b + p.length + 1)), some (.lst []), none, none] st = .ok ((List.range' 0 p.length).map natD) st := by
    rw [← List.range_eq_range']
    exact range1_at (by simp [kp, ln]) (by omega)
  simp only [List.map_nil, List.nil_append, List.drop_zero] at e
  simp [m__law_events, g__law_events, r1, e, -e_Range1, -List.map_map]
theorem over_comp (he : ∀ c, 0 ≤ R.ends.getD c 0) (ρ : DL.Env) (h2 : ρ.length = 2) (r0 : ρ[0]? = some (some (.ref (b + p.length + 1)))) : ∀ l : List Nat, (∀ c ∈ l, c < p.length) →
    compGo ρ (.nm 1) (gBl (gOp (mIn false) (gC (.bl false)) (gOp3 (gOp mIx (gOp mIxK (gVar 0) (gC (.str "done"))) (gVar 1)) gNone (gSome (gOp mAdd (gOp mIx (gOp mIxK (gVar 0) (gC (.str "ends"))) (gVar 1)) (gC (.int 1))))))) (gVar 1) (l.map natD) st
      = .ok ((l.filter fun c => ((doneR R c).take ((R.ends.getD c 0 + 1).toNat)).contains false).map natD) st
  | [], _ => rfl
  | c :: l, hl => by
    have ih := over_comp he ρ h2 r0 l fun x hx => hl x (List.mem_cons_of_mem _ hx)
    have hcl := hl c List.mem_cons_self
    have hlen := hR c p[c] (List.getElem?_eq_getElem hcl)
    have h5 := hp.c5 p[c] (List.getElem_mem hcl)
    have kp := fun z => ixK_s (z := z) h.d
    have i2 := refs_at (a := b) hcl st
    have en := h.end_at hcl
    have hz := he c
    have sl : mSl (.ref (b + c)) none (some (R.ends.getD c 0 + 1)) st = some (.lst (((doneR R c).take ((R.ends.getD c 0 + 1).toNat)).map D.bl)) := by
      have hd := h.done hcl
      show (match st[b + c]? with
        | some (.lst l) => if l.length ≤ LIM then some (D.lst (DL.cutD l none (some (R.ends.getD c 0 + 1)))) else none
        | _ => none) = _
      rw [hd]
      show (if _ then _ else _) = _
      rw [if_pos (by
        rw [List.length_map, hlen]
        show _ ≤ 1000000
        omega)]
      have e : R.ends.getD c 0 + 1 = (((R.ends.getD c 0 + 1).toNat : Nat) : Int) := by omega
      rw [e, cut_take, List.map_take, ← e]
    have inn : mIn false (.bl false) (.lst (((doneR R c).take ((R.ends.getD c 0 + 1).toNat)).map D.bl)) st = some (.bl (((doneR R c).take ((R.ends.getD c 0 + 1).toNat)).contains false)) := by
      rw [in_lst, bl_in, ok_lst, bls_okB]
      rfl
    have v0 : ∀ z st, gVar 0 (ρ.set 1 z) st = .ok (.ref (b + p.length + 1)) st := fun z st => gv (by rw [List.getElem?_set_ne (by decide), r0])
    have v1 : ∀ z st, gVar 1 (ρ.set 1 (some z)) st = .ok z st := fun z st => gv (by rw [List.getElem?_set_self (by omega)])
    rw [List.map_cons, List.filter_cons, k_nm]
    cases hb : ((doneR R c).take ((R.ends.getD c 0 + 1).toNat)).contains false <;> rw [hb] at inn <;> simp [v0, v1, kp, i2, en, sl, inn, ih, -List.map_map, -List.map_take, -List.getD_eq_getElem?_getD]
theorem law_over_go (he : ∀ c, 0 ≤ R.ends.getD c 0) : m__law_over [.ref (b + p.length + 1)] st = .ok (.bl (overR p R)) st := by
  have h3 := hp.n3
  have e := over_comp hs h hp hR he [some (.ref (b + p.length + 1)), none] rfl rfl (List.range p.length) fun c hc => List.mem_range.mp hc
  have kp := fun z => ixK_s (z := z) h.d
  have ln : mLen [.lst ((List.range' b p.length).map D.ref)] st = some (natD p.length) := by simp [natD]
  have r1 : gRange1 (aCons (gCB mLen (aCons (gOp mIxK (gVar 0) (gC (.str "done"))) aNil)) aNil) [some (.ref (b + p.length + 1)), none] st = .ok ((List.range p.length).map natD) st := range1_at (by simp [kp, ln, -o_lenl]) (by omega)
  have nn := eq_nil ((List.range p.length).filter fun c => ((doneR R c).take ((R.ends.getD c 0 + 1).toNat)).contains false) st
  have hall : ((List.range p.length).filter fun c => ((doneR R c).take ((R.ends.getD c 0 + 1).toNat)).contains false).isEmpty = overR p R := by
    unfold overR
    rw [Bool.eq_iff_iff, List.isEmpty_iff, List.filter_eq_nil_iff, List.all_eq_true]
    constructor
    · intro z c hc
      have := z c hc
      cases hh : ((doneR R c).take ((R.ends.getD c 0 + 1).toNat)).contains false
      · rfl
      · exact absurd hh this
    · intro z c hc hh
      have := z c hc
      rw [hh] at this
      cases this
  rw [hall] at nn
  simp [m__law_over, g__law_over, r1, e, nn, -e_Range1, -o_eq, -List.map_map, -List.getD_eq_getElem?_getD, -List.contains_eq_mem]
end
end K03

set_option Elab.async false
set_option linter.all false
set_option maxRecDepth 100000
set_option maxHeartbeats 4000000
namespace K03
open PySem PySem.Spec L2 DL CM
open PyProof.Rows hiding St
theorem marks_comp (ρ : DL.Env) (h4 : ρ.length = 4) : ∀ (p : List (List Ins)) (st : Sto), (∀ c ∈ p, c.length ≤ 5) →
    compGo ρ (.nm 3) gYes (gOpN mRepN (gLstD (aCons (gC (.bl false)) aNil)) (gCB mLen (aCons (gVar 3) aNil))) (p.map encC) st
      = .ok ((List.range' st.length p.length).map D.ref) (st ++ p.map fun core => SO.lst ((List.replicate core.length false).map D.bl))
  | [], st, _ => by simp
  | c :: p, st, h => by
    have h5 := h c List.mem_cons_self
    have ih := marks_comp ρ h4 p (st ++ [.lst ((List.replicate c.length false).map D.bl)]) fun d hd => h d (List.mem_cons_of_mem _ hd)
    have v3 : ∀ z st, gVar 3 (ρ.set 3 (some z)) st = .ok z st := fun z st => gv (by rw [List.getElem?_set_self (by omega)])
    have ln : ∀ st, mLen [encC c] st = some (.int (c.length : Int)) := fun st => by simp [encC]
    have rp : ∀ st, mRepN (.lst [.bl false]) (.int (c.length : Int)) st = some ((List.replicate c.length false).map D.bl) := fun st => by
      rw [o_rn, if_pos ⟨by omega, by omega, by simp⟩, Int.toNat_natCast]
      congr 1
      generalize c.length = n
      induction n with
      | zero => rfl
      | succ n ih => simp [List.replicate_succ] at ih ⊢; try exact ih
    rw [List.length_append, List.length_cons, List.length_nil] at ih
    rw [List.map_cons, List.length_cons, List.range'_succ, k_nm]
    simp [v3, ln, rp, ih, -List.map_replicate]
theorem dcts_comp (ρ : DL.Env) : ∀ (l : List D) (st : Sto), compGo ρ (.nm 3) gYes gDctM l st = .ok ((List.range' st.length l.length).map D.ref) (st ++ List.replicate l.length (SO.dK []))
  | [], st => by simp
  | d :: l, st => by
    have ih := dcts_comp ρ l (st ++ [.dK []])
    rw [List.length_append, List.length_cons, List.length_nil] at ih
    rw [List.length_cons, List.range'_succ, List.replicate_succ, k_nm]
    simp [ih]
theorem law_begin_go (sub : List Str) {p : List (List Ins)} (hp : POk p) (st : Sto) : m__law_begin [.tup (sub.map D.str), encP p] st = .ok (.ref (st.length + p.length + 1)) (st ++ sto0 sub p st.length) := by
  have h3 := hp.n3
  let A : Sto := p.map fun core => SO.lst ((List.replicate core.length false).map D.bl)
  have hA : A.length = p.length := List.length_map _
  let C : SO := .lst ([0, 0, 0].map D.int)
  let K0 : List (Key × D) := [(.inr "design", .tup (sub.map D.str)), (.inr "program", encP p), (.inr "done", .lst ((List.range' st.length p.length).map D.ref)), (.inr "cells", .ref (st.length + p.length))]
  let K1 : List (Key × D) := K0 ++ [(.inr "took", .lst ((List.range' (st.length + p.length + 2) p.length).map D.ref))]
  let E : SO := .lst ((List.replicate p.length (99 : Int)).map D.int)
  let T : Sto := List.replicate p.length (SO.dK [])
  have e1 := marks_comp [some (.tup (sub.map D.str)), some (encP p), none, none] rfl p st hp.c5
  have e2 := fun (ρ : DL.Env) (s : Sto) => dcts_comp ρ (p.map encC) s
  have sq : ∀ s, mSeq (encP p) s = some (p.map encC) := fun s => by simp [encP]
  have ln : ∀ s, mLen [encP p] s = some (.int (p.length : Int)) := fun s => by simp [encP]
  have rp : ∀ s, mRepN (.lst [.int 99]) (.int (p.length : Int)) s = some ((List.replicate p.length (99 : Int)).map D.int) := fun s => by
    rw [o_rn, if_pos ⟨by omega, by omega, by simp⟩, Int.toNat_natCast]
    congr 1
    generalize p.length = n
    induction n with
    | zero => rfl
    | succ n ih => simp [List.replicate_succ] at ih ⊢; try exact ih
  -- the dict
  have d1 : gDispK ["design", "program", "done", "cells"] (aCons (gVar 0) (aCons (gVar 1) (aCons (gComp [3] (gSeq (gVar 1)) (.nm 3) gYes (gOpN mRepN (gLstD (aCons (gC (.bl false)) aNil)) (gCB mLen (aCons (gVar 3) aNil)))) (aCons (gLstM (aCons (gC (.int 0)) (aCons (gC (.int 0)) (aCons (gC (.int 0)) aNil)))) aNil)))) [some (.tup (sub.map D.str)), some (encP p), none, none] st = .ok (.ref (st.length + p.length + 1)) (st ++ (A ++ [C, .dK K0])) := by
    have d0 : (aCons (gVar 0) (aCons (gVar 1) (aCons (gComp [3] (gSeq (gVar 1)) (.nm 3) gYes (gOpN mRepN (gLstD (aCons (gC (.bl false)) aNil)) (gCB mLen (aCons (gVar 3) aNil)))) (aCons (gLstM (aCons (gC (.int 0)) (aCons (gC (.int 0)) (aCons (gC (.int 0)) aNil)))) aNil)))) [some (.tup (sub.map D.str)), some (encP p), none, none] st = .ok [.tup (sub.map D.str), encP p, .lst ((List.range' st.length p.length).map D.ref), .ref (st.length + p.length)] (st ++ (A ++ [C])) := by
      simp [sq, e1, A, C, -List.map_replicate]
    rw [e_DispK, d0, disp_at rfl]
    have hl : (st ++ (A ++ [C])).length = st.length + p.length + 1 := by simp [hA]; omega
    rw [hl]
    congr 1
    simp [keysOf, K0]
  have d2 : (gTupD (aCons (gComp [3] (gSeq (gVar 1)) (.nm 3) gYes gDctM) (aCons (gOpN mRepN (gLstD (aCons (gC (.int 99)) aNil)) (gCB mLen (aCons (gVar 1) aNil))) aNil))) [some (.tup (sub.map D.str)), some (encP p), some (.ref (st.length + p.length + 1)), none] (st ++ (A ++ [C, .dK K0])) = .ok (.tup [.lst ((List.range' (st.length + p.length + 2) p.length).map D.ref), .ref (st.length + 2 * p.length + 2)]) (st ++ (A ++ ([C, .dK K0] ++ (T ++ [E])))) := by
    have hl : (st ++ (A ++ [C, .dK K0])).length = st.length + p.length + 2 := by simp [hA]; omega
    have e2' := e2 [some (.tup (sub.map D.str)), some (encP p), some (.ref (st.length + p.length + 1)), none] (st ++ (A ++ [C, .dK K0]))
    rw [hl, List.length_map] at e2'
    have hl2 : ((st ++ (A ++ [C, .dK K0])) ++ List.replicate p.length (SO.dK [])).length = st.length + 2 * p.length + 2 := by
      rw [List.length_append, hl, List.length_replicate]
      omega
    have e3 : ∀ ρ, (gOpN mRepN (gLstD (aCons (gC (.int 99)) aNil)) (gCB mLen (aCons (gVar 1) aNil))) [some (.tup (sub.map D.str)), some (encP p), ρ, none] ((st ++ (A ++ [C, .dK K0])) ++ List.replicate p.length (SO.dK [])) = .ok (.ref (st.length + 2 * p.length + 2)) (((st ++ (A ++ [C, .dK K0])) ++ List.replicate p.length (SO.dK [])) ++ [E]) := fun ρ => by
      rw [← hl2]
      simp [ln, rp, E, -List.map_replicate]
    have e4 : (gComp [3] (gSeq (gVar 1)) (.nm 3) gYes gDctM) [some (.tup (sub.map D.str)), some (encP p), some (.ref (st.length + p.length + 1)), none] (st ++ (A ++ [C, .dK K0])) = .ok (.lst ((List.range' (st.length + p.length + 2) p.length).map D.ref)) ((st ++ (A ++ [C, .dK K0])) ++ List.replicate p.length (SO.dK [])) := by
      simp only [e_Comp, e_Seq, e_VS, e_V0, Out.bind_ok, kSeq, sq, oout_some, kComp, w_cons, w_nil, List.set_cons_succ, List.set_cons_zero, e2', kLs]
    have e5 : st ++ (A ++ [C, .dK K0]) ++ List.replicate p.length (SO.dK []) ++ [E] = st ++ (A ++ ([C, .dK K0] ++ (T ++ [E]))) := by
      simp [T]
    rw [← e5]
    simp only [e_TupD, e_Cons, e4, Out.bind_ok, kCons, e3, e_Nil, kCons2, DL.kTup]
    rfl
  have at1 : ∀ (x : SO) (r : Sto), (st ++ (A ++ ([C, x] ++ r)))[st.length + p.length + 1]? = some x := fun x r => by
    rw [Nat.add_assoc, List.getElem?_append_right (by omega), Nat.add_sub_cancel_left, ← hA, List.getElem?_append_right (by omega), Nat.add_sub_cancel_left]
    rfl
  have set1 : ∀ (x y : SO) (r : Sto), (st ++ (A ++ ([C, x] ++ r))).set (st.length + p.length + 1) y = st ++ (A ++ ([C, y] ++ r)) := fun x y r => by
    have a := List.set_append_right (s := st) (t := A ++ ([C, x] ++ r)) (st.length + (p.length + 1)) y (by omega)
    have b := List.set_append_right (s := A) (t := [C, x] ++ r) (A.length + 1) y (by omega)
    rw [Nat.add_sub_cancel_left] at a b
    rw [hA] at b
    rw [b] at a
    rw [Nat.add_assoc]
    exact a
  have p1 : put1Out "took" (.lst ((List.range' (st.length + p.length + 2) p.length).map D.ref)) (.ref (st.length + p.length + 1)) (st ++ (A ++ ([C, .dK K0] ++ (T ++ [E])))) = .ok () (st ++ (A ++ ([C, .dK K1] ++ (T ++ [E])))) := by
    rw [put1_at (at1 _ _) (by simp [K0]), set1]
    have : putKD K0 (.inr "took") (.lst ((List.range' (st.length + p.length + 2) p.length).map D.ref)) = K1 := by simp [putKD, K0, K1]
    rw [this]
  have p2 : put1Out "ends" (.ref (st.length + 2 * p.length + 2)) (.ref (st.length + p.length + 1)) (st ++ (A ++ ([C, .dK K1] ++ (T ++ [E])))) = .ok () (st ++ sto0 sub p st.length) := by
    rw [put1_at (at1 _ _) (by simp [K1, K0]), set1]
    have : putKD K1 (.inr "ends") (.ref (st.length + 2 * p.length + 2)) = runK sub p st.length := by simp [putKD, K0, K1, runK]
    rw [this]
    rfl
  have f1 : g__law_begin [some (.tup (sub.map D.str)), some (encP p), none, none] st = .ok (.rt (.ref (st.length + p.length + 1))) (st ++ sto0 sub p st.length) := by
    unfold g__law_begin
    rw [sSeq_ap, e_sSet, d1, Out.bind_ok]
    show ((sSeq _ _) [some (.tup (sub.map D.str)), some (encP p), some (.ref (st.length + p.length + 1)), none] _) = _
    rw [sSeq_ap, e_Put2K, d2, Out.bind_ok, e_k2K1, e_put1]
    simp only [e_VS, e_V0, Out.bind_ok, p1, e_k2K2, e_put1, p2, e_k2K3, e_thn, e_sRet, kRet]
  show (g__law_begin [some (.tup (sub.map D.str)), some (encP p), none, none] st).bind endD = _
  rw [f1]
  rfl
end K03

set_option Elab.async false
set_option linter.all false
set_option maxRecDepth 100000
set_option maxHeartbeats 4000000
namespace K03
open PySem PySem.Spec L2 DL CM
open PyProof.Rows hiding St
theorem law_do_go {st : Sto} {b : Nat} {sub : List Str} {p : List (List Ins)} {R : RunM} (h : RunAt st b sub p R) (hp : POk p) (hR : RLen p R) (h3 : R.cells.length = 3) (hT : ∀ c, (R.took.getD c []).length < 1000) {c place : Nat} {core : List Ins} (hc : p[c]? = some core) {i : Ins} (hi : core[place]? = some i) :
    ∃ st', m__law_do [.ref (b + p.length + 1), encE (c, place)] st = .ok .non st' ∧ RunAt st' b sub p (doR R c core place i) ∧ Wr b st st' := by
  have hpl : place < core.length := (List.getElem?_eq_some_iff.mp hi).1
  have hm := List.mem_of_getElem? hc
  have hcl : c < p.length := (List.getElem?_eq_some_iff.mp hc).1
  have h5 := hp.c5 core hm
  have ok := hp.ins core hm i (List.mem_of_getElem? hi)
  have hlen := hR c core hc
  obtain ⟨s1, hs1⟩ : ∃ s1, st.set (b + c) (.lst (((doneR R c).set place true).map D.bl)) = s1 := ⟨_, rfl⟩
  have h1 := h.sDone hcl (place := place)
  rw [hs1] at h1
  have w1 : Wr b st s1 := by
    rw [← hs1]
    exact .set (by omega) (cf_bls _)
  obtain ⟨R1, hR1⟩ : ∃ R1, setDone R c place = R1 := ⟨_, rfl⟩
  have hd1 : doneR R1 c = (doneR R c).set place true := by
    rw [← hR1]
    unfold setDone doneR
    simp only
    rw [List.getD_eq_getElem?_getD, List.getElem?_set_self (by rw [h.nd]; exact hcl)]
    rfl
  have hc1 : R1.cells = R.cells := by rw [← hR1]; rfl
  rw [hR1] at h1
  have i1 := fun s => core_at hc s
  have i2 := fun s => refs_at (a := b) hcl s
  have i4 := fun s => refs_at (a := b + p.length + 2) hcl s
  have i3 : ∀ s, mIx (encC core) (natD place) s = some i.enc := fun s => by
    show atI (core.map Ins.enc) _ = _
    exact atI_nat (by rw [List.getElem?_map, hi]; rfl)
  have kp0 := fun z => ixK_s (z := z) h.d
  have kp := fun z => ixK_s (z := z) h1.d
  have pu : ∀ ρ, putOut (.ref (b + c)) (natD place) (.bl true) ρ st = .ok (.nx ρ) s1 := fun ρ => by
    have e := putn_at (i := (place : Int)) (v := .bl true) (ρ := ρ) (h.done hcl) (by omega) (by rw [List.length_map, hlen]; omega)
    rw [natD, e, ← hs1, Int.toNat_natCast, List.map_set]
  have cellx : ∀ x : Int, 0 ≤ x → x ≤ 2 → mIx (.ref (b + p.length)) (.int x) s1 = some (.int (R1.cells.getD x.toNat 0)) := fun x x0 x2 => by
    rw [ix_at h1.cl]
    refine atI_nat' x0 ?_
    rw [List.getElem?_map, List.getD_eq_getElem?_getD, List.getElem?_eq_getElem (by rw [hc1]; omega)]
    rfl
  have pcell : ∀ (x v : Int) ρ, 0 ≤ x → x ≤ 2 → putOut (.ref (b + p.length)) (.int x) (.int v) ρ s1 = .ok (.nx ρ) (s1.set (b + p.length) (.lst ((R1.cells.set x.toNat v).map D.int))) := fun x v ρ x0 x2 => by
    rw [putn_at h1.cl x0 (by rw [List.length_map, hc1]; omega), List.map_set]
  unfold doR
  rw [hR1]
  simp only [encE, natD] at i1 i2 i3 i4 pu ⊢
  cases hk : i with
  | rd r x =>
    subst hk
    obtain ⟨_, x0, x2⟩ := ok
    have hx : ∀ s, mIx (Ins.rd r x).enc (.int 2) s = some (.int x) := fun s => rfl
    have lw := law_last_wr (hp.ins core hm) (k := place) (Nat.le_of_lt hpl) (by omega) x s1
    have tkd := h1.took' hcl
    simp only [encC] at i1 i3
    have pt : ∀ (v : Int) ρ, (R1.took.getD c []).length < 1000 → putKOut (.ref (b + p.length + 2 + c)) (.int (place : Int)) (.int v) ρ s1 = .ok (.nx ρ) (s1.set (b + p.length + 2 + c) (.dK (tookK (putT (R1.took.getD c []) place v)))) := fun v ρ hl => by
      rw [putK_i tkd (by
        unfold tookK
        rw [List.length_map]
        exact hl), putT_K]
    have hT1 : (R1.took.getD c []).length < 1000 := by
      have : R1.took = R.took := by rw [← hR1]; rfl
      rw [this]
      exact hT c
    have ec := cellx x x0 x2
    refine ⟨s1.set (b + p.length + 2 + c) (.dK (tookK (putT (R1.took.getD c []) place (takenR R1 c core place x)))), ?_, h1.sTook hcl, w1.trans (.set (by omega) (cf_took _))⟩
    cases e : lastP (wrP x) core place with
    | none =>
      have hl : lastL (wrP x) core place = [] := by unfold lastL; rw [e]
      have et : takenR R1 c core place x = R1.cells.getD x.toNat 0 := by simp [takenR, e]
      rw [hl] at lw
      rw [et]
      simp [m__law_do, g__law_do, patOut, Pat.set, Pats.set, kp0, kp, i1, i2, i3, i4, pu, Ins.kind, in_lst, hx, lw, ec, pt _ _ hT1, -List.getD_eq_getElem?_getD]
    | some m =>
      have hl : lastL (wrP x) core place = [.int (m : Int)] := by unfold lastL; rw [e]
      rw [hl] at lw
      obtain ⟨hmp, hsrc⟩ := src_of (Nat.le_of_lt hpl) e
      have mk := h1.mark_at hcl (j := m) (by rw [hd1, List.length_set, hlen]; omega)
      simp only [natD] at mk
      have hmi : core[m]? = some (core.getD m .fn) := by
        rw [List.getD_eq_getElem?_getD, List.getElem?_eq_getElem (by omega)]
        rfl
      cases hdm : dAt R1 c m with
      | true =>
        rw [hdm] at mk
        have et : takenR R1 c core place x = R1.cells.getD x.toNat 0 := by simp [takenR, e, hdm]
        rw [et]
        simp [m__law_do, g__law_do, patOut, Pat.set, Pats.set, kp0, kp, i1, i2, i3, i4, pu, Ins.kind, in_lst, hx, lw, ec, pt _ _ hT1, k_nm, mk, -List.getD_eq_getElem?_getD]
      | false =>
        rw [hdm] at mk
        have et : takenR R1 c core place x = writtenR R1 c core m (core.getD m .fn) := by simp [takenR, e, hdm]
        rw [et]
        have hw : (core.getD m .fn).isWr = true := by
          rcases hsrc with ⟨n, hh⟩ | ⟨n, hh⟩ <;> rw [hmi] at hh <;> rw [Option.some.inj hh] <;> rfl
        have wg := law_written_go h1 hp hc hmi hw
        simp only [natD] at wg
        simp [m__law_do, g__law_do, patOut, Pat.set, Pats.set, kp0, kp, i1, i2, i3, i4, pu, Ins.kind, in_lst, hx, lw, wg, pt _ _ hT1, k_nm, mk, -List.getD_eq_getElem?_getD]
  | wr x n =>
    subst hk
    obtain ⟨⟨x0, x2⟩, _⟩ := ok
    have wg := law_written_go h1 hp hc hi rfl
    simp only [natD] at wg
    have hx : ∀ s, mIx (Ins.wr x n).enc (.int 1) s = some (.int x) := fun s => rfl
    refine ⟨_, ?_, h1.sCells, w1.trans (.set (by omega) (cf_is _))⟩
    simp [m__law_do, g__law_do, patOut, Pat.set, Pats.set, kp0, kp, i1, i2, i3, pu, Ins.kind, in_lst, wg, writtenR, pcell _ _ _ x0 x2, -List.map_set]
  | cp x r =>
    subst hk
    obtain ⟨⟨x0, x2⟩, _⟩ := ok
    have wg := law_written_go h1 hp hc hi rfl
    simp only [natD] at wg
    refine ⟨_, ?_, h1.sCells, w1.trans (.set (by omega) (cf_is _))⟩
    simp [m__law_do, g__law_do, patOut, Pat.set, Pats.set, kp0, kp, i1, i2, i3, pu, Ins.kind, in_lst, wg, writtenR, pcell _ _ _ x0 x2, -List.map_set]
  | fn =>
    subst hk
    refine ⟨s1, ?_, h1, w1⟩
    simp [m__law_do, g__law_do, patOut, Pat.set, Pats.set, kp0, kp, i1, i2, i3, pu, Ins.kind, in_lst]
  | gd r n =>
    subst hk
    have hx : ∀ s, mIx (Ins.gd r n).enc (.int 2) s = some (.int n) := fun s => rfl
    have w := law_word_go h1 hp hc (Nat.le_of_lt hpl) r
    simp only [natD] at w
    by_cases hw : wordR R1 c core place r = n
    · refine ⟨s1, ?_, ?_, w1⟩
      · simp [m__law_do, g__law_do, patOut, Pat.set, Pats.set, kp0, kp, i1, i2, i3, pu, Ins.kind, in_lst, w, hx, hw]
      · show RunAt s1 b sub p (if wordR R1 c core place r = n then R1 else _)
        rw [if_pos hw]
        exact h1
    · have pe : ∀ ρ, putOut (.ref (b + 2 * p.length + 2)) (.int (c : Int)) (.int (place : Int)) ρ s1 = .ok (.nx ρ) (s1.set (b + 2 * p.length + 2) (.lst ((R1.ends.set c place).map D.int))) := fun ρ => by
        rw [putn_at h1.en (by omega) (by rw [List.length_map, h1.ne]; omega), Int.toNat_natCast, List.map_set]
      refine ⟨s1.set (b + 2 * p.length + 2) (.lst ((R1.ends.set c place).map D.int)), ?_, ?_, w1.trans (.set (by omega) (cf_is _))⟩
      · simp [m__law_do, g__law_do, patOut, Pat.set, Pats.set, kp0, kp, i1, i2, i3, pu, Ins.kind, in_lst, w, hx, hw, pe, -List.map_set]
      · show RunAt _ b sub p (if wordR R1 c core place r = n then R1 else _)
        rw [if_neg hw]
        exact h1.sEnds (by rw [List.length_set]; exact h1.ne)
end K03

set_option Elab.async false
set_option linter.all false
set_option maxRecDepth 100000
set_option maxHeartbeats 4000000
namespace K03
open PySem PySem.Spec L2 DL CM
open PyProof.Rows hiding St
section
variable {b : Nat} {sub : List Str} {p : List (List Ins)} {R : RunM} {c : Nat} {core : List Ins} (hc : p[c]? = some core)
include hc
theorem out_inner {st ws : Sto} {a : SO} (h : ∀ y : List Int, RunAt (st ++ (a :: (ws ++ [regSO y]))) b sub p R) (hk : ∀ x ∈ R.took.getD c [], 0 ≤ x.1 ∧ ∃ r y, core[x.1.toNat]? = some (.rd r y)) (hok : ∀ i ∈ core, i.ok) {f : Option D} : ∀ (ks : List Int) (w : List Int), w.length = 2 → (∀ k ∈ ks, k ∈ (R.took.getD c []).map (·.1)) → ∀ z : Option D, ∃ z',
    forGo (.nm 4) (sPut (gVar 3) (gOp mIx (gOp mIx (gOp mIx (gOp mIxK (gVar 0) (gC (.str "program"))) (gVar 2)) (gVar 4)) (gC (.int 1))) (gOp mIxK (gOp mIx (gOp mIxK (gVar 0) (gC (.str "took"))) (gVar 2)) (gVar 4))) (ks.map D.int)
        [some (.ref (b + p.length + 1)), f, some (natD c), some (.ref (st.length + (1 + ws.length))), z] (st ++ (a :: (ws ++ [regSO w])))
      = .ok (.nx [some (.ref (b + p.length + 1)), f, some (natD c), some (.ref (st.length + (1 + ws.length))), z']) (st ++ (a :: (ws ++ [regSO (ks.foldl (outStep core (R.took.getD c [])) w)])))
  | [], w, _, _, z => ⟨z, rfl⟩
  | k :: ks, w, hw, hm, z => by
    have hcl : c < p.length := (List.getElem?_eq_some_iff.mp hc).1
    obtain ⟨v, hv⟩ := lookup_mem (hm k List.mem_cons_self)
    obtain ⟨x, hx, e⟩ := List.mem_map.mp (hm k List.mem_cons_self)
    obtain ⟨k0, r, y, hr⟩ := hk x hx
    rw [e] at k0 hr
    have okr := hok _ (List.mem_of_getElem? hr)
    obtain ⟨⟨r0, r1⟩, _⟩ := okr
    have es : outStep core (R.took.getD c []) w k = w.set r.toNat v := by
      unfold outStep regOf
      rw [hr, hv]
      rfl
    obtain ⟨z', ih⟩ := out_inner h hk hok ks (w.set r.toNat v) (by rw [List.length_set]; exact hw) (fun j hj => hm j (List.mem_cons_of_mem _ hj)) (some (.int k))
    refine ⟨z', ?_⟩
    rw [List.foldl_cons, es, ← ih]
    have h0 := h w
    have kp := fun z => ixK_s (z := z) h0.d
    have i1 := core_at hc (st ++ (a :: (ws ++ [regSO w])))
    have i4 := refs_at (a := b + p.length + 2) hcl (st ++ (a :: (ws ++ [regSO w])))
    have i3 : mIx (encC core) (.int k) (st ++ (a :: (ws ++ [regSO w]))) = some (Ins.rd r y).enc := by
      show atI (core.map Ins.enc) _ = _
      exact atI_nat' k0 (by rw [List.getElem?_map, hr]; rfl)
    have it : mIxK (.ref (b + p.length + 2 + c)) (.int k) (st ++ (a :: (ws ++ [regSO w]))) = some (.int v) := by
      rw [ixK_i (h0.took' hcl), lu_took, hv]
      rfl
    have pu : ∀ ρ, putOut (.ref (st.length + (1 + ws.length))) (.int r) (.int v) ρ (st ++ (a :: (ws ++ [regSO w]))) = .ok (.nx ρ) (st ++ (a :: (ws ++ [regSO (w.set r.toNat v)]))) := fun ρ => by
      show putOut _ _ _ ρ (st ++ (a :: (ws ++ [SO.lst (w.map D.int)]))) = _
      rw [putn_at (l := w.map D.int) get_w r0 (by rw [List.length_map]; omega), set_w]
      unfold regSO
      rw [List.map_set]
    simp only [natD] at i1 i4 ⊢
    simp [forGo, Pat.set, kp, i1, i3, i4, it, pu]
end
theorem out_loop {st : Sto} {b : Nat} {sub : List Str} {p : List (List Ins)} {R : RunM} (h : RunAt st b sub p R) (hp : POk p) (hk : TKey p R) (hT : ∀ c, (R.took.getD c []).length ≤ 1000) : ∀ (n c : Nat) (acc : List (List Int)) (ws : Sto), c + n = p.length → acc.length + n ≤ 1000 → Cf ws → ∀ x y z : Option D, ∃ x' y' z' ws',
    forGo (.nm 2) (sSeq (sSet 3 (gLstM (aCons (gC (.int 0)) (aCons (gC (.int 0)) aNil)))) (sSeq (sFor (gSeq (gCB mSortI (aCons (gCB mListK (aCons (gOp mIx (gOp mIxK (gVar 0) (gC (.str "took"))) (gVar 2)) aNil)) aNil))) (.nm 4) (sPut (gVar 3) (gOp mIx (gOp mIx (gOp mIx (gOp mIxK (gVar 0) (gC (.str "program"))) (gVar 2)) (gVar 4)) (gC (.int 1))) (gOp mIxK (gOp mIx (gOp mIxK (gVar 0) (gC (.str "took"))) (gVar 2)) (gVar 4)))) (sDrop (gAppend (gVar 1) (gCB mTuple (aCons (gVar 3) aNil)))))) ((List.range' c n).map natD)
        [some (.ref (b + p.length + 1)), some (.ref st.length), x, y, z] (st ++ (.lst (acc.map fun l => D.tup (l.map D.int)) :: ws))
      = .ok (.nx [some (.ref (b + p.length + 1)), some (.ref st.length), x', y', z']) (st ++ (.lst ((acc ++ outFrom R c (p.drop c)).map fun l => D.tup (l.map D.int)) :: ws')) ∧ Cf ws'
  | 0, c, acc, ws, hc, _, hw, x, y, z => ⟨x, y, z, ws, by
    rw [List.drop_eq_nil_of_le (by omega)]
    simp [outFrom, forGo], hw⟩
  | n + 1, c, acc, ws, hc, hz, hw, x, y, z => by
    have hcl : c < p.length := by omega
    have hcc : p[c]? = some p[c] := List.getElem?_eq_getElem hcl
    have hmem := List.getElem_mem hcl
    have hG : ∀ (w : Sto) (A : List (List Int)), Cf w → RunAt (st ++ (.lst (A.map fun l => D.tup (l.map D.int)) :: w)) b sub p R := fun w A cw => h.gr ⟨_, rfl, by
      show (SO.cf _ && w.all SO.cf) = true
      rw [cw, Bool.and_true]
      show dsCf (A.map fun l => D.tup (l.map D.int)) = true
      rw [dsCf_all, List.all_map, List.all_eq_true]
      intro l _
      exact cf_is l⟩
    have cfr : ∀ (w : Sto) (y : List Int), Cf w → Cf (w ++ [regSO y]) := fun w y cw => by
      show (w ++ [regSO y]).all SO.cf = true
      rw [List.all_append, cw]
      show (true && (SO.cf (regSO y) && true)) = true
      rw [show SO.cf (regSO y) = true from cf_is y]
      rfl
    obtain ⟨w', hw'⟩ : ∃ w', outC p[c] (R.took.getD c []) = w' := ⟨_, rfl⟩
    have hin : ∀ y : List Int, RunAt (st ++ (.lst (acc.map fun l => D.tup (l.map D.int)) :: (ws ++ [regSO y]))) b sub p R := fun y => hG (ws ++ [regSO y]) acc (cfr ws y hw)
    have ek : outFrom R c (p.drop c) = w' :: outFrom R (c + 1) (p.drop (c + 1)) := by
      rw [List.drop_eq_getElem_cons hcl, ← hw']
      rfl
    obtain ⟨z1, e1⟩ := out_inner hcc hin (hk c p[c] hcc) (hp.ins p[c] hmem) (f := some (.ref st.length)) (sortI ((R.took.getD c []).map (·.1))) [0, 0] rfl (fun j hj => (sortI_perm _).mem_iff.mp hj) z
    have ew : (sortI ((R.took.getD c []).map (·.1))).foldl (outStep p[c] (R.took.getD c [])) [0, 0] = w' := hw'
    rw [ew] at e1
    obtain ⟨x', y', z', ws', e2, cw'⟩ := out_loop h hp hk hT n (c + 1) (acc ++ [w']) (ws ++ [regSO w']) (by omega) (by rw [List.length_append]; simp; omega) (cfr ws w' hw) (some (natD c)) (some (.ref (st.length + (1 + ws.length)))) z1
    refine ⟨x', y', z', ws', ?_, cw'⟩
    rw [ek]
    have eacc : acc ++ w' :: outFrom R (c + 1) (p.drop (c + 1)) = acc ++ [w'] ++ outFrom R (c + 1) (p.drop (c + 1)) := by simp
    rw [eacc, ← e2]
    have h0 := hin [0, 0]
    have kp := fun z => ixK_s (z := z) h0.d
    have i4 := refs_at (a := b + p.length + 2) hcl (st ++ (.lst (acc.map fun l => D.tup (l.map D.int)) :: (ws ++ [regSO [0, 0]])))
    have lk : mListK [.ref (b + p.length + 2 + c)] (st ++ (.lst (acc.map fun l => D.tup (l.map D.int)) :: (ws ++ [regSO [0, 0]]))) = some (.lst (((R.took.getD c []).map (·.1)).map D.int)) := by
      rw [listK_at (h0.took' hcl) (by unfold tookK; rw [List.length_map]; exact hT c)]
      unfold tookK
      rw [List.map_map, List.map_map, List.map_map]
      rfl
    have sr : ∀ s, mSortI [.lst (((R.took.getD c []).map (·.1)).map D.int)] s = some (.lst ((sortI ((R.took.getD c []).map (·.1))).map D.int)) := fun s => sortI_at _
    have hl0 : (st ++ (.lst (acc.map fun l => D.tup (l.map D.int)) :: ws)).length = st.length + (1 + ws.length) := by
      rw [List.length_append, List.length_cons]
      omega
    have s0 : (st ++ (.lst (acc.map fun l => D.tup (l.map D.int)) :: ws)) ++ [.lst [.int 0, .int 0]] = st ++ (.lst (acc.map fun l => D.tup (l.map D.int)) :: (ws ++ [regSO [0, 0]])) := by
      rw [List.append_assoc]
      rfl
    have lM : ∀ ρ, gLstM (aCons (gC (.int 0)) (aCons (gC (.int 0)) aNil)) ρ (st ++ (.lst (acc.map fun l => D.tup (l.map D.int)) :: ws)) = .ok (.ref (st.length + (1 + ws.length))) (st ++ (.lst (acc.map fun l => D.tup (l.map D.int)) :: (ws ++ [regSO [0, 0]]))) := fun ρ => by
      rw [← s0, ← hl0]
      rfl
    have w2 : w'.length ≤ 1000 := by
      have : ∀ (ks : List Int) (w : List Int), (ks.foldl (outStep p[c] (R.took.getD c [])) w).length = w.length := fun ks => by
        induction ks with
        | nil => intro w; rfl
        | cons k ks ih =>
          intro w
          rw [List.foldl_cons, ih]
          exact List.length_set
      rw [← hw']
      unfold outC
      rw [this]
      simp
    have tp : mTuple [.ref (st.length + (1 + ws.length))] (st ++ (.lst (acc.map fun l => D.tup (l.map D.int)) :: (ws ++ [regSO w']))) = some (.tup (w'.map D.int)) := tup_at get_w (by
      rw [List.length_map]
      show _ ≤ 1000000
      omega)
    have ap : ∀ ρ, kApp (gCB mTuple (aCons (gVar 3) aNil)) [some (.ref (b + p.length + 1)), some (.ref st.length), some (natD c), some (.ref (st.length + (1 + ws.length))), ρ] (.ref st.length) (st ++ (.lst (acc.map fun l => D.tup (l.map D.int)) :: (ws ++ [regSO w']))) = .ok .non (st ++ (.lst ((acc ++ [w']).map fun l => D.tup (l.map D.int)) :: (ws ++ [regSO w']))) := fun ρ => by
      rw [app_1 get_a]
      have e3 : gCB mTuple (aCons (gVar 3) aNil) [some (.ref (b + p.length + 1)), some (.ref st.length), some (natD c), some (.ref (st.length + (1 + ws.length))), ρ] (st ++ (.lst (acc.map fun l => D.tup (l.map D.int)) :: (ws ++ [regSO w']))) = .ok (.tup (w'.map D.int)) (st ++ (.lst (acc.map fun l => D.tup (l.map D.int)) :: (ws ++ [regSO w']))) := by
        simp [tp]
      rw [e3, Out.bind_ok, app_2 get_a (by
        rw [List.length_map]
        show _ < 1000000
        omega), set_a, List.map_append]
      rfl
    have eR : List.range' c (n + 1) = c :: List.range' (c + 1) n := List.range'_succ
    rw [eR, List.map_cons]
    simp only [natD] at i4 e1 ap ⊢
    simp only [forGo, Pat.set, List.set_cons_succ, List.set_cons_zero, sSeq_ap, e_sSet, lM, Out.bind_ok, kSet, e_thn, e_sFor, e_Seq, e_CB, e_Cons, e_Nil, e_Op, e_VS, e_V0, e_C, kOp, kOp2, kp, rk_took, oout_some, i4, kCons, kCons2, kCB, lk, sr, kSeq, o_sql, kFor, e1, e_sDrop, e_App, ap, kDrop]
theorem law_outcome_go {st : Sto} {b : Nat} {sub : List Str} {p : List (List Ins)} {R : RunM} (h : RunAt st b sub p R) (hp : POk p) (hk : TKey p R) (hT : ∀ c, (R.took.getD c []).length ≤ 1000) (h3 : R.cells.length = 3) : ∃ st', m__law_outcome [.ref (b + p.length + 1)] st = .ok (encO (outFrom R 0 p) R.cells) st' ∧ Gr st st' := by
  have hp3 := hp.n3
  obtain ⟨x', y', z', ws', e, cw⟩ := out_loop h hp hk hT p.length 0 [] [] (by omega) (by simp; omega) rfl none none none
  have g : Gr st (st ++ (.lst ((outFrom R 0 p).map fun l => D.tup (l.map D.int)) :: ws')) := ⟨_, rfl, by
    show (SO.cf _ && ws'.all SO.cf) = true
    rw [cw, Bool.and_true]
    show dsCf ((outFrom R 0 p).map fun l => D.tup (l.map D.int)) = true
    rw [dsCf_all, List.all_map, List.all_eq_true]
    intro l _
    exact cf_is l⟩
  refine ⟨_, ?_, g⟩
  have g0 : Gr st (st ++ [.lst []]) := ⟨_, rfl, rfl⟩
  have h0 := h.gr g0
  have kp := fun z => ixK_s (z := z) h0.d
  have kp2 := fun z => ixK_s (z := z) (h.gr g).d
  have ln : ∀ s, mLen [encP p] s = some (natD p.length) := fun s => by simp [encP, natD]
  have r1 : gRange1 (aCons (gCB mLen (aCons (gOp mIxK (gVar 0) (gC (.str "program"))) aNil)) aNil) [some (.ref (b + p.length + 1)), some (.ref st.length), none, none, none] (st ++ [.lst []]) = .ok ((List.range' 0 p.length).map natD) (st ++ [.lst []]) := by
    rw [← List.range_eq_range']
    exact range1_at (by simp [kp, ln]) (by omega)
  have lo : ∀ (R : RunM) (q : List (List Ins)) (c : Nat), (outFrom R c q).length = q.length := fun R q => by
    induction q with
    | nil => intro c; rfl
    | cons a q ih => intro c; show (outFrom R (c + 1) q).length + 1 = _; rw [ih]; rfl
  have t1 := tup_at (st := st ++ (.lst ((outFrom R 0 p).map fun l => D.tup (l.map D.int)) :: ws')) (n := st.length) get_a (by
    rw [List.length_map, lo]
    show _ ≤ 1000000
    omega)
  have t2 := tup_at (h.gr g).cl (by
    rw [List.length_map, h3]
    show _ ≤ 1000000
    omega)
  simp only [List.map_nil, List.nil_append, List.drop_zero] at e
  simp [m__law_outcome, g__law_outcome, r1, e, t1, t2, kp2, encO, encR, -e_Range1, -List.map_map]
end K03

set_option Elab.async false
set_option linter.all false
set_option maxRecDepth 100000
set_option maxHeartbeats 4000000
namespace K03
open PySem PySem.Spec L2 DL CM
open PyProof.Rows hiding St
/-- the store of the law's loop -/
structure LS (sc : D) (sub : List Str) (p : List (List Ins)) (R : RunM) (st : Sto) : Prop where
  t0 : st[0]? = some (.tab "law" lamQ)
  t1 : st[1]? = some (.tab "steps_on" (lamQn "steps_on"))
  row : HasRow 2 sc st
  run : RunAt st 3 sub p R
  cf : Cf st
section
variable {sc : D} {sub : List Str} {p : List (List Ins)} {R : RunM} {st st' : Sto}
theorem LS.any (h : LS sc sub p R st) : st.any (SO.isTab "steps_on") = true := by
  rw [List.any_eq_true]
  exact ⟨_, List.mem_of_getElem? h.t1, by simp [SO.isTab]⟩
theorem LS.gr (h : LS sc sub p R st) (g : Gr st st') : LS sc sub p R st' := by
  obtain ⟨a, b, c, e, hp⟩ := h.row
  exact ⟨g.get h.t0, g.get h.t1, ⟨a, b, c, g.get e, hp⟩, h.run.gr g, g.cf h.cf⟩
theorem LS.draw (hsc : sc.cf = true) (h : LS sc sub p R st) (r : Row 2 sc st st') (hr : HasRow 2 sc st') : LS sc sub p R st' := by
  obtain ⟨a, b, c, rfl, hp⟩ := r
  refine ⟨by rw [List.getElem?_set_ne (by decide)]; exact h.t0, by rw [List.getElem?_set_ne (by decide)]; exact h.t1, hr, h.run.keep (by decide), ?_⟩
  have := (Wr.set (b := 0) (n := 2) (st := st) (o := rowS sc a b c) (Nat.zero_le _) (by
    show dsCf [sc, .int a, .int b, .int c] = true
    simp [dsCf, hsc, D.cf])).cf h.cf
  exact this
theorem LS.wr {R' : RunM} (h : LS sc sub p R st) (w : Wr 3 st st') (r : RunAt st' 3 sub p R') : LS sc sub p R' st' := by
  obtain ⟨a, b, c, e, hp⟩ := h.row
  exact ⟨by rw [w.low 0 (by decide)]; exact h.t0, by rw [w.low 1 (by decide)]; exact h.t1, ⟨a, b, c, by rw [w.low 2 (by decide)]; exact e, hp⟩, r, w.cf h.cf⟩
end
theorem alk_ev (l : List (Nat × Nat)) (h : l.length ≤ 1000) : alk 5 (.tup (l.map encE)) = true := by
  simp only [alk, Bool.and_eq_true, List.all_eq_true, decide_eq_true_eq]
  refine ⟨fun x hx => ?_, by rw [List.length_map]; exact h⟩
  obtain ⟨e, _, rfl⟩ := List.mem_map.mp hx
  simp [encE, natD, alk]
theorem alk_o (l : List (List Int)) (c : List Int) (h : l.length ≤ 1000) (h2 : ∀ x ∈ l, x.length ≤ 1000) (h3 : c.length ≤ 1000) : alk 5 (encO l c) = true := by
  simp only [encO, encR, alk, Bool.and_eq_true, List.all_eq_true, decide_eq_true_eq]
  refine ⟨fun x hx => ?_, by simp⟩
  rcases List.mem_cons.mp hx with rfl | hx
  · simp only [alk, Bool.and_eq_true, List.all_eq_true, decide_eq_true_eq]
    refine ⟨fun y hy => ?_, by rw [List.length_map]; exact h⟩
    obtain ⟨z, hz, rfl⟩ := List.mem_map.mp hy
    simp only [alk, Bool.and_eq_true, List.all_eq_true, decide_eq_true_eq]
    refine ⟨fun v hv => ?_, by rw [List.length_map]; exact h2 z hz⟩
    obtain ⟨i, _, rfl⟩ := List.mem_map.mp hv
    rfl
  · rw [List.mem_singleton.mp hx]
    simp only [alk, Bool.and_eq_true, List.all_eq_true, decide_eq_true_eq]
    refine ⟨fun v hv => ?_, by rw [List.length_map]; exact h3⟩
    obtain ⟨i, _, rfl⟩ := List.mem_map.mp hv
    rfl
theorem ev_ne (l : List (Nat × Nat)) (st : Sto) : mNe (.lst (l.map encE)) (.lst []) st = some (.bl !l.isEmpty) := by
  have h : (l.map encE).all (okB 63) = true := by
    rw [List.all_map, List.all_eq_true]
    intro x _
    simp [encE, natD]
  rw [o_ne, ok_lst, h]
  cases l with
  | nil => simp
  | cons x l => simp
theorem out_two (core : List Ins) (l : List (Int × Int)) : ∀ (ks : List Int) (w : List Int), (ks.foldl (outStep core l) w).length = w.length
  | [], _ => rfl
  | k :: ks, w => by
    rw [List.foldl_cons, out_two core l ks]
    exact List.length_set
theorem outFrom_len (R : RunM) : ∀ (p : List (List Ins)) (c : Nat), (outFrom R c p).length = p.length ∧ ∀ x ∈ outFrom R c p, x.length ≤ 1000
  | [], _ => ⟨rfl, fun _ h => by cases h⟩
  | a :: p, c => by
    obtain ⟨h1, h2⟩ := outFrom_len R p (c + 1)
    refine ⟨by show (outFrom R (c + 1) p).length + 1 = _; rw [h1]; rfl, fun x hx => ?_⟩
    rcases List.mem_cons.mp hx with rfl | hx
    · unfold outC
      rw [out_two]
      decide
    · exact h2 x hx
abbrev turnB : G Fl := (sSeq (sSet 7 (gCall m__law_events (aCons (gVar 5) aNil))) (sSeq (sIf (gTNot (gTr (gCall (m__law_alike 5) (aCons (gCall m_events_behind (aCons (gVar 2) (aCons (gVar 3) (aCons (gVar 4) aNil)))) (aCons (gCB mTuple (aCons (gVar 7) aNil)) aNil))))) (sRet (gC (.bl false))) sNext) (sSeq (sIf (gTNot (gTr (gCall (m__law_alike 5) (aCons (gCall m_has_ended (aCons (gVar 2) (aCons (gVar 3) (aCons (gVar 4) aNil)))) (aCons (gCall m__law_over (aCons (gVar 5) aNil)) aNil))))) (sRet (gC (.bl false))) sNext) (sSeq (sIf (gTAnd (gTr (gCall m__law_over (aCons (gVar 5) aNil))) (gTOr (gBl (gOp mNe (gVar 7) (gLstD aNil))) (gTNot (gTr (gCall (m__law_alike 5) (aCons (gCall m_told_by (aCons (gVar 2) (aCons (gVar 3) (aCons (gVar 4) aNil)))) (aCons (gCall m__law_outcome (aCons (gVar 5) aNil)) aNil))))))) (sRet (gC (.bl false))) sNext) (sSeq (sIf (gTAnd (gTNot (gTr (gCall m__law_over (aCons (gVar 5) aNil)))) (gTNot (gTr (gWrong lamQ wr_tab (.bl false) (gCall m_told_by (aCons (gVar 2) (aCons (gVar 3) (aCons (gVar 4) aNil)))))))) (sRet (gC (.bl false))) sNext) (sIf (gBl (gOp mNe (gVar 7) (gLstD aNil))) (sSeq (sSet 8 (gCall m__law_pick (aCons (gVar 1) (aCons (gVar 7) aNil)))) (sSeq (sDrop (gCall m__law_do (aCons (gVar 5) (aCons (gVar 8) aNil)))) (sSet 4 (gOp mAdd (gVar 4) (gTupD (aCons (gVar 8) aNil)))))) sNext))))))
theorem turn_go {ns : List Int} {sc : D} (hS : Scr ns sc) (hsc : sc.cf = true) {sub : List Str} (hs : sub.Sublist words8) {p : List (List Ins)} (hp : POk p) {es : List (Nat × Nat)} {R : RunM} (H : RRow sub p es R) {st : Sto} (h : LS sc sub p R st) (x y z : Option D) : ∃ es' R' st' y' z',
    turnB [some sc, some (.ref 2), some (.tup (sub.map D.str)), some (encP p), some (.tup (es.map encE)), some (.ref (3 + p.length + 1)), x, y, z] st
      = .ok (.nx [some sc, some (.ref 2), some (.tup (sub.map D.str)), some (encP p), some (.tup (es'.map encE)), some (.ref (3 + p.length + 1)), x, y', z']) st' ∧ RRow sub p es' R' ∧ LS sc sub p R' st' := by
  have V := H.V
  have hR : RLen p R := fun c core hc => (V.J c core hc).len
  have hall := hp.all
  have hfew := H.few
  have h10 : es.length ≤ 10 := by
    unfold tot at hfew
    omega
  have he0 : ∀ c, 0 ≤ R.ends.getD c 0 := fun c => by
    by_cases hc : c < p.length
    · exact (V.J c p[c] (List.getElem?_eq_getElem hc)).e0
    · rw [List.getD_eq_getElem?_getD, List.getElem?_eq_none (by rw [V.L.ne]; omega)]
      exact Int.le_refl _
  obtain ⟨evs, hev⟩ : ∃ evs, evsFrom sub R 0 p = evs := ⟨_, rfl⟩
  have e1 := law_events_go hs h.run hp hR
  obtain ⟨s1, e2, g1⟩ := events_behind_go hs hp h.any h.cf h10 H.ten H.run
  have hne := now_evs (sub := sub) V.J
  have el : evs.length ≤ 1000 := by
    rw [← hev, ← hne, List.length_map]
    have : (nowM (stepsOf sub p) (wordsOf p R)).length ≤ (List.range (stepsOf sub p).length).length := List.length_filter_le _ _
    rw [List.length_range, stepsFrom_len] at this
    omega
  rw [hne, hev] at e2
  rw [hev] at e1
  have h1 := h.gr g1
  have a1 := alike_refl 5 _ s1 (alk_ev evs el)
  obtain ⟨s2, e3, g2⟩ := has_ended_go hs hp h1.any h1.cf h10 H.ten H.run
  have h2 := h1.gr g2
  rw [over_eq V.J] at e3
  have e4 := fun s (hh : LS sc sub p R s) => law_over_go hs hh.run hp hR he0
  have a2 := alike_refl 5 (.bl (overR p R)) s2 rfl
  have nn := fun s => ev_ne evs s
  cases ho : overR p R with
  | true =>
    have hom : overM (wordsOf p R) = true := by rw [over_eq V.J]; exact ho
    have hevn : evs = [] := by
      rw [← hev, ← hne]
      have : nowM (stepsOf sub p) (wordsOf p R) = [] := by
        unfold nowM
        rw [List.filter_eq_nil_iff]
        intro k hk hh
        rw [Bool.and_eq_true] at hh
        have hk := List.mem_range.mp hk
        have hl : (stepsOf sub p).length = tot p := stepsFrom_len (mustM sub) p 0 0
        rw [hl] at hk
        have hkl : k < (wordsOf p R).length := by rw [words_len]; exact hk
        have := List.all_eq_true.mp hom _ (List.getElem_mem hkl)
        have hw := hh.1
        unfold wAt at hw
        rw [List.getElem?_eq_getElem hkl] at hw
        cases q : (wordsOf p R)[k] with
        | none => rw [q] at this; cases this
        | some v => rw [q] at hw; cases hw
      rw [this]
      rfl
    rw [hevn] at e1 e2 a1 nn
    rw [ho] at e3 a2
    have e4' := fun s hh => (e4 s hh).trans (by rw [ho])
    obtain ⟨s3, e5, g3⟩ := told_by_go hs hp h2.any h2.cf h10 H.ten H.run hom
    have h3 := h2.gr g3
    have rq := regs_eq (W := mustM sub) V.J V.T (fun c j core hc hj => by
      have hw := wo_at (R := R) hc hj
      have hl : off p c + j < (wordsOf p R).length := by rw [words_len]; exact off_lt hc hj
      have := List.all_eq_true.mp hom _ (List.getElem_mem hl)
      unfold wAt at hw
      rw [List.getElem?_eq_getElem hl] at hw
      rw [← hw]
      exact this) p 0 0 [] rfl fun c core hc => by rw [Nat.zero_add]; exact hc
    rw [List.nil_append, List.nil_append] at rq
    rw [rq] at e5
    obtain ⟨s4, e6, g4⟩ := law_outcome_go h3.run hp (fun c core hc x hx => ⟨((V.J c core hc).tk x hx).1, ((V.J c core hc).tk x hx).2.1⟩) (fun c => Nat.le_trans (V.tl c) (by omega)) V.h3
    have h4 := h3.gr g4
    obtain ⟨ol, o2⟩ := outFrom_len R p 0
    have a3 := alike_refl 5 (encO (outFrom R 0 p) R.cells) s4 (alk_o _ _ (by rw [ol]; have := hp.n3; omega) o2 (by rw [V.h3]; decide))
    refine ⟨es, R, s4, some (.lst []), z, ?_, H, h4⟩
    simp only [List.map_nil] at e1 e2 a1 nn
    simp [e1, e2, a1, e3, e4' _ h2, e4' _ h4, a2, nn, e5, e6, a3, -o_ne, -List.map_map]
  | false =>
    have hom : overM (wordsOf p R) = false := by rw [over_eq V.J]; exact ho
    rw [ho] at e3 a2
    have e4' := fun s hh => (e4 s hh).trans (by rw [ho])
    obtain ⟨s3, e5, g3⟩ := told_by_not hs hp h2.any h2.cf h10 H.ten H.run hom
    have h3 := h2.gr g3
    have wrg : ∀ ρ, ρ[2]? = some (some (.tup (sub.map D.str))) → ρ[3]? = some (some (encP p)) → ρ[4]? = some (some (.tup (es.map encE))) → gWrong lamQ wr_tab (.bl false) (gCall m_told_by (aCons (gVar 2) (aCons (gVar 3) (aCons (gVar 4) aNil)))) ρ s2 = .ok (.bl true) s3 := fun ρ a b d => by
      have hb : gCall m_told_by (aCons (gVar 2) (aCons (gVar 3) (aCons (gVar 4) aNil))) ρ s2 = .exn ⟨"NotMade", none⟩ s3 := by
        simp [gv a, gv b, gv d, e5]
      unfold gWrong
      rw [h2.t0, hb]
      simp [wr_tab, List.lookup]
    have wrg' := fun (t y z : Option D) => wrg [some sc, some (.ref 2), some (.tup (sub.map D.str)), some (encP p), some (.tup (es.map encE)), some (.ref (3 + p.length + 1)), t, y, z] rfl rfl rfl
    cases hq : evs with
    | nil =>
      rw [hq] at e1 e2 a1 nn
      refine ⟨es, R, s3, some (.lst []), z, ?_, H, h3⟩
      simp only [List.map_nil] at e1 e2 a1 nn
      simp [e1, e2, a1, e3, e4' _ h2, a2, nn, wrg', -o_ne, -List.map_map]
    | cons v0 vs =>
      have hpos : 0 < (evs.map encE).length := by rw [List.length_map, hq]; exact Nat.succ_pos _
      obtain ⟨pk, s5, e6, hpk, r5, hr5⟩ := pick_go hS (evs.map encE) hpos (by
        rw [List.length_map, ← hev, ← hne, List.length_map]
        have : (nowM (stepsOf sub p) (wordsOf p R)).length ≤ (List.range (stepsOf sub p).length).length := List.length_filter_le _ _
        rw [List.length_range, stepsFrom_len] at this
        omega) h3.row
      obtain ⟨ev, hevm, rfl⟩ := List.mem_map.mp hpk
      rw [← hev] at hevm
      obtain ⟨core, i, hc, hi, H'⟩ := row_do hp H hevm
      have h5 := h3.draw hsc r5 hr5
      obtain ⟨s6, e7, r6, w6⟩ := law_do_go h5.run hp hR V.h3 (fun c => Nat.lt_of_le_of_lt (V.tl c) (by omega)) hc hi
      refine ⟨es ++ [ev], doR R ev.1 core ev.2 i, s6, some (.lst (evs.map encE)), some (encE ev), ?_, H', h5.wr w6 r6⟩
      have nn' : ∀ s, mNe (.lst (evs.map encE)) (.lst []) s = some (.bl true) := fun s => by
        rw [nn s, hq]
        rfl
      have ad : ∀ s, mAdd (.tup (es.map encE)) (.tup [encE ev]) s = some (.tup ((es ++ [ev]).map encE)) := fun s => by
        rw [o_addt, if_pos (by
          rw [List.length_map]
          show es.length + 1 ≤ 1000000
          omega), List.map_append]
        rfl
      simp [e1, e2, a1, e3, e4' _ h2, a2, nn', wrg', e6, e7, ad, -o_ne, -o_addt, -List.map_map, -List.map_append]
end K03

set_option Elab.async false
set_option linter.all false
set_option maxRecDepth 100000
set_option maxHeartbeats 4000000
namespace K03
open PySem PySem.Spec L2 DL CM
open PyProof.Rows hiding St
theorem loop_go {ns : List Int} {sc : D} (hS : Scr ns sc) (hsc : sc.cf = true) {sub : List Str} (hs : sub.Sublist words8) {p : List (List Ins)} (hp : POk p) : ∀ (l : List D) {es : List (Nat × Nat)} {R : RunM} {st : Sto}, RRow sub p es R → LS sc sub p R st → ∀ x y z : Option D, ∃ ρ' st',
    forGo (.nm 6) turnB l [some sc, some (.ref 2), some (.tup (sub.map D.str)), some (encP p), some (.tup (es.map encE)), some (.ref (3 + p.length + 1)), x, y, z] st = .ok (.nx ρ') st'
  | [], es, R, st, _, _, x, y, z => ⟨_, _, rfl⟩
  | d :: l, es, R, st, H, h, x, y, z => by
    obtain ⟨es', R', st', y', z', e, H', h'⟩ := turn_go hS hsc hs hp H h (some d) y z
    obtain ⟨ρ', st2, e2⟩ := loop_go hS hsc hs hp l H' h' (some d) y' z'
    refine ⟨ρ', st2, ?_⟩
    have e0 : forGo (.nm 6) turnB (d :: l) [some sc, some (.ref 2), some (.tup (sub.map D.str)), some (encP p), some (.tup (es.map encE)), some (.ref (3 + p.length + 1)), x, y, z] st = (turnB [some sc, some (.ref 2), some (.tup (sub.map D.str)), some (encP p), some (.tup (es.map encE)), some (.ref (3 + p.length + 1)), some d, y, z] st).bind fun r s1 => match r with
      | .nx ρ' => forGo (.nm 6) turnB l ρ' s1
      | .ct ρ' => forGo (.nm 6) turnB l ρ' s1
      | .bk ρ' => .ok (.nx ρ') s1
      | .rt d => .ok (.rt d) s1 := rfl
    rw [e0, e]
    exact e2
theorem law_go (ns : List Int) (sc : D) (hq : sc = .ro (ns.map D.int) ∨ sc = .lst (ns.map D.int)) : ∃ st, m_law [sc] ([("law", lamQ), ("steps_on", lamQn "steps_on")].map fun p => SO.tab p.1 p.2) = .ok (.bl true) st := by
  have hS := scr_of hq
  have hsc : sc.cf = true := by
    rcases hq with rfl | rfl
    · exact cf_is ns
    · exact cf_is ns
  have hr0 : HasRow 2 sc [.tab "law" lamQ, .tab "steps_on" (lamQn "steps_on"), rowS sc 0 14243 0] := ⟨0, 14243, 0, rfl, by decide⟩
  obtain ⟨sub, s1, e1, hs, r1, hr1⟩ := design_go hS hr0
  obtain ⟨p, s2, e2, hpd, r2, hr2⟩ := program_go hS 10 (by decide) hr1
  have hp : POk p := hpd.ok (by decide)
  obtain ⟨a, b, c, hst, hab⟩ := Row.trans hS r1 r2
  have hst' : s2 = [.tab "law" lamQ, .tab "steps_on" (lamQn "steps_on"), rowS sc a b c] := hst
  have e3 := law_begin_go sub hp s2
  have hl : s2.length = 3 := by rw [hst']; rfl
  have hcf : Cf s2 := by
    rw [hst']
    show dsCf [sc, .int a, .int b, .int c] && true = true
    simp [dsCf, hsc, D.cf]
  have hA := run_at0 sub p s2
  have hG := gr_run sub p s2 s2.length
  rw [hl] at e3 hA hG
  have L : LS sc sub p (run0 p) (s2 ++ sto0 sub p 3) := by
    obtain ⟨x, y, z, e, hx⟩ := hr2
    exact ⟨hG.get (by rw [hst']; rfl), hG.get (by rw [hst']; rfl), ⟨x, y, z, hG.get e, hx⟩, hA, hG.cf hcf⟩
  obtain ⟨ρ', st', hf⟩ := loop_go hS hsc hs hp ((List.range 11).map natD) (row0 hp) L none none none
  have hF := hf
  rw [show (List.range 11).map natD = intsD 0 11 from rfl] at hF
  refine ⟨st', ?_⟩
  have e0 : m_law = gFun 9 (sSeq (sSet 1 (gLstM (aCons (gVar 0) (aCons (gC (.int 0)) (aCons (gC (.int 14243)) (aCons (gC (.int 0)) aNil)))))) (sSeq (sPat (.tp [(.nm 2), (.nm 3), (.nm 4)]) (gTupD (aCons (gCall m__law_design (aCons (gVar 1) aNil)) (aCons (gCall m__law_program (aCons (gVar 1) (aCons (gC (.int 10)) aNil))) (aCons (gTupD aNil) aNil))))) (sSeq (sSet 5 (gCall m__law_begin (aCons (gVar 2) (aCons (gVar 3) aNil)))) (sSeq (sFor (gRange1 (aCons (gC (.int 11)) aNil)) (.nm 6) turnB) (sRet (gC (.bl true))))))) := rfl
  rw [e0]
  clear e0 hf
  simp only [List.map_nil] at hF
  generalize turnB = T at hF ⊢
  have e1' : m__law_design [.ref 2] [.tab "law" lamQ, .tab "steps_on" (lamQn "steps_on"), .lst [sc, .int 0, .int 14243, .int 0]] = _ := e1
  have e2' : m__law_program [.ref 2, .int 10] s1 = _ := e2
  have e3' : m__law_begin [.tup (sub.map D.str), encP p] s2 = .ok (.ref (3 + p.length + 1)) (s2 ++ sto0 sub p 3) := e3
  generalize hx : encP p = X at *
  simp only [List.map_cons, List.map_nil]
  simp [gFun, e1', e2', e3', hF, patOut, Pat.set, Pats.set]
end K03

set_option Elab.async false
set_option linter.all false
set_option maxRecDepth 100000
set_option maxHeartbeats 2000000
namespace K03
open PySem PySem.Spec L2 DL
open PyProof.Rows hiding St
theorem all_mk {w : World} {K : PySem.W.Frag} {h : Heap} {mg : Str → Option Value} {fa : Addr} (X : K.In h) (G : h.Ns mainGlobals mg) (hfa : mg "law" = some (.ref fa))
    {f__law_alike : Addr} {od__law_alike an__law_alike : Option Addr} {sl__law_alike : Array (Option Value)} {oc__law_alike kV__law_alike dc__law_alike pm__law_alike cd__law_alike ct__law_alike : Value}
    (a__law_alike : PySem.W.nsIn K mainGlobals "_law_alike" = some (some (.ref f__law_alike)))
    (l__law_alike : K.lookup f__law_alike = some ⟨oc__law_alike, od__law_alike, .func (PySem.W.fnOf "_law_alike" "_law_alike" (defArgs s__law_alike) (defBody s__law_alike) (defScope s__law_alike) .none kV__law_alike dc__law_alike pm__law_alike an__law_alike cd__law_alike ct__law_alike), sl__law_alike⟩) (w__law_alike : PySem.W.codeIn K cd__law_alike "_law_alike" = true) (k__law_alike : PySem.W.keepIn K (.ref f__law_alike) = true)
    {f__law_begin : Addr} {od__law_begin an__law_begin : Option Addr} {sl__law_begin : Array (Option Value)} {oc__law_begin kV__law_begin dc__law_begin pm__law_begin cd__law_begin ct__law_begin : Value}
    (a__law_begin : PySem.W.nsIn K mainGlobals "_law_begin" = some (some (.ref f__law_begin)))
    (l__law_begin : K.lookup f__law_begin = some ⟨oc__law_begin, od__law_begin, .func (PySem.W.fnOf "_law_begin" "_law_begin" (defArgs s__law_begin) (defBody s__law_begin) (defScope s__law_begin) .none kV__law_begin dc__law_begin pm__law_begin an__law_begin cd__law_begin ct__law_begin), sl__law_begin⟩) (w__law_begin : PySem.W.codeIn K cd__law_begin "_law_begin" = true) (k__law_begin : PySem.W.keepIn K (.ref f__law_begin) = true)
    {f__law_taken : Addr} {od__law_taken an__law_taken : Option Addr} {sl__law_taken : Array (Option Value)} {oc__law_taken kV__law_taken dc__law_taken pm__law_taken cd__law_taken ct__law_taken : Value}
    (a__law_taken : PySem.W.nsIn K mainGlobals "_law_taken" = some (some (.ref f__law_taken)))
    (l__law_taken : K.lookup f__law_taken = some ⟨oc__law_taken, od__law_taken, .func (PySem.W.fnOf "_law_taken" "_law_taken" (defArgs s__law_taken) (defBody s__law_taken) (defScope s__law_taken) .none kV__law_taken dc__law_taken pm__law_taken an__law_taken cd__law_taken ct__law_taken), sl__law_taken⟩) (w__law_taken : PySem.W.codeIn K cd__law_taken "_law_taken" = true) (k__law_taken : PySem.W.keepIn K (.ref f__law_taken) = true)
    {f__law_design : Addr} {od__law_design an__law_design : Option Addr} {sl__law_design : Array (Option Value)} {oc__law_design kV__law_design dc__law_design pm__law_design cd__law_design ct__law_design : Value}
    (a__law_design : PySem.W.nsIn K mainGlobals "_law_design" = some (some (.ref f__law_design)))
    (l__law_design : K.lookup f__law_design = some ⟨oc__law_design, od__law_design, .func (PySem.W.fnOf "_law_design" "_law_design" (defArgs s__law_design) (defBody s__law_design) (defScope s__law_design) .none kV__law_design dc__law_design pm__law_design an__law_design cd__law_design ct__law_design), sl__law_design⟩) (w__law_design : PySem.W.codeIn K cd__law_design "_law_design" = true) (k__law_design : PySem.W.keepIn K (.ref f__law_design) = true)
    {f__law_last : Addr} {od__law_last an__law_last : Option Addr} {sl__law_last : Array (Option Value)} {oc__law_last kV__law_last dc__law_last pm__law_last cd__law_last ct__law_last : Value}
    (a__law_last : PySem.W.nsIn K mainGlobals "_law_last" = some (some (.ref f__law_last)))
    (l__law_last : K.lookup f__law_last = some ⟨oc__law_last, od__law_last, .func (PySem.W.fnOf "_law_last" "_law_last" (defArgs s__law_last) (defBody s__law_last) (defScope s__law_last) .none kV__law_last dc__law_last pm__law_last an__law_last cd__law_last ct__law_last), sl__law_last⟩) (w__law_last : PySem.W.codeIn K cd__law_last "_law_last" = true) (k__law_last : PySem.W.keepIn K (.ref f__law_last) = true)
    {f__law_word : Addr} {od__law_word an__law_word : Option Addr} {sl__law_word : Array (Option Value)} {oc__law_word kV__law_word dc__law_word pm__law_word cd__law_word ct__law_word : Value}
    (a__law_word : PySem.W.nsIn K mainGlobals "_law_word" = some (some (.ref f__law_word)))
    (l__law_word : K.lookup f__law_word = some ⟨oc__law_word, od__law_word, .func (PySem.W.fnOf "_law_word" "_law_word" (defArgs s__law_word) (defBody s__law_word) (defScope s__law_word) .none kV__law_word dc__law_word pm__law_word an__law_word cd__law_word ct__law_word), sl__law_word⟩) (w__law_word : PySem.W.codeIn K cd__law_word "_law_word" = true) (k__law_word : PySem.W.keepIn K (.ref f__law_word) = true)
    {f__law_written : Addr} {od__law_written an__law_written : Option Addr} {sl__law_written : Array (Option Value)} {oc__law_written kV__law_written dc__law_written pm__law_written cd__law_written ct__law_written : Value}
    (a__law_written : PySem.W.nsIn K mainGlobals "_law_written" = some (some (.ref f__law_written)))
    (l__law_written : K.lookup f__law_written = some ⟨oc__law_written, od__law_written, .func (PySem.W.fnOf "_law_written" "_law_written" (defArgs s__law_written) (defBody s__law_written) (defScope s__law_written) .none kV__law_written dc__law_written pm__law_written an__law_written cd__law_written ct__law_written), sl__law_written⟩) (w__law_written : PySem.W.codeIn K cd__law_written "_law_written" = true) (k__law_written : PySem.W.keepIn K (.ref f__law_written) = true)
    {f__law_do : Addr} {od__law_do an__law_do : Option Addr} {sl__law_do : Array (Option Value)} {oc__law_do kV__law_do dc__law_do pm__law_do cd__law_do ct__law_do : Value}
    (a__law_do : PySem.W.nsIn K mainGlobals "_law_do" = some (some (.ref f__law_do)))
    (l__law_do : K.lookup f__law_do = some ⟨oc__law_do, od__law_do, .func (PySem.W.fnOf "_law_do" "_law_do" (defArgs s__law_do) (defBody s__law_do) (defScope s__law_do) .none kV__law_do dc__law_do pm__law_do an__law_do cd__law_do ct__law_do), sl__law_do⟩) (w__law_do : PySem.W.codeIn K cd__law_do "_law_do" = true) (k__law_do : PySem.W.keepIn K (.ref f__law_do) = true)
    {f__law_cell : Addr} {od__law_cell an__law_cell : Option Addr} {sl__law_cell : Array (Option Value)} {oc__law_cell kV__law_cell dc__law_cell pm__law_cell cd__law_cell ct__law_cell : Value}
    (a__law_cell : PySem.W.nsIn K mainGlobals "_law_cell" = some (some (.ref f__law_cell)))
    (l__law_cell : K.lookup f__law_cell = some ⟨oc__law_cell, od__law_cell, .func (PySem.W.fnOf "_law_cell" "_law_cell" (defArgs s__law_cell) (defBody s__law_cell) (defScope s__law_cell) .none kV__law_cell dc__law_cell pm__law_cell an__law_cell cd__law_cell ct__law_cell), sl__law_cell⟩) (w__law_cell : PySem.W.codeIn K cd__law_cell "_law_cell" = true) (k__law_cell : PySem.W.keepIn K (.ref f__law_cell) = true)
    {f__law_letter : Addr} {od__law_letter an__law_letter : Option Addr} {sl__law_letter : Array (Option Value)} {oc__law_letter kV__law_letter dc__law_letter pm__law_letter cd__law_letter ct__law_letter : Value}
    (a__law_letter : PySem.W.nsIn K mainGlobals "_law_letter" = some (some (.ref f__law_letter)))
    (l__law_letter : K.lookup f__law_letter = some ⟨oc__law_letter, od__law_letter, .func (PySem.W.fnOf "_law_letter" "_law_letter" (defArgs s__law_letter) (defBody s__law_letter) (defScope s__law_letter) .none kV__law_letter dc__law_letter pm__law_letter an__law_letter cd__law_letter ct__law_letter), sl__law_letter⟩) (w__law_letter : PySem.W.codeIn K cd__law_letter "_law_letter" = true) (k__law_letter : PySem.W.keepIn K (.ref f__law_letter) = true)
    {f__law_must : Addr} {od__law_must an__law_must : Option Addr} {sl__law_must : Array (Option Value)} {oc__law_must kV__law_must dc__law_must pm__law_must cd__law_must ct__law_must : Value}
    (a__law_must : PySem.W.nsIn K mainGlobals "_law_must" = some (some (.ref f__law_must)))
    (l__law_must : K.lookup f__law_must = some ⟨oc__law_must, od__law_must, .func (PySem.W.fnOf "_law_must" "_law_must" (defArgs s__law_must) (defBody s__law_must) (defScope s__law_must) .none kV__law_must dc__law_must pm__law_must an__law_must cd__law_must ct__law_must), sl__law_must⟩) (w__law_must : PySem.W.codeIn K cd__law_must "_law_must" = true) (k__law_must : PySem.W.keepIn K (.ref f__law_must) = true)
    {f__law_can : Addr} {od__law_can an__law_can : Option Addr} {sl__law_can : Array (Option Value)} {oc__law_can kV__law_can dc__law_can pm__law_can cd__law_can ct__law_can : Value}
    (a__law_can : PySem.W.nsIn K mainGlobals "_law_can" = some (some (.ref f__law_can)))
    (l__law_can : K.lookup f__law_can = some ⟨oc__law_can, od__law_can, .func (PySem.W.fnOf "_law_can" "_law_can" (defArgs s__law_can) (defBody s__law_can) (defScope s__law_can) .none kV__law_can dc__law_can pm__law_can an__law_can cd__law_can ct__law_can), sl__law_can⟩) (w__law_can : PySem.W.codeIn K cd__law_can "_law_can" = true) (k__law_can : PySem.W.keepIn K (.ref f__law_can) = true)
    {f__law_events : Addr} {od__law_events an__law_events : Option Addr} {sl__law_events : Array (Option Value)} {oc__law_events kV__law_events dc__law_events pm__law_events cd__law_events ct__law_events : Value}
    (a__law_events : PySem.W.nsIn K mainGlobals "_law_events" = some (some (.ref f__law_events)))
    (l__law_events : K.lookup f__law_events = some ⟨oc__law_events, od__law_events, .func (PySem.W.fnOf "_law_events" "_law_events" (defArgs s__law_events) (defBody s__law_events) (defScope s__law_events) .none kV__law_events dc__law_events pm__law_events an__law_events cd__law_events ct__law_events), sl__law_events⟩) (w__law_events : PySem.W.codeIn K cd__law_events "_law_events" = true) (k__law_events : PySem.W.keepIn K (.ref f__law_events) = true)
    {f__law_outcome : Addr} {od__law_outcome an__law_outcome : Option Addr} {sl__law_outcome : Array (Option Value)} {oc__law_outcome kV__law_outcome dc__law_outcome pm__law_outcome cd__law_outcome ct__law_outcome : Value}
    (a__law_outcome : PySem.W.nsIn K mainGlobals "_law_outcome" = some (some (.ref f__law_outcome)))
    (l__law_outcome : K.lookup f__law_outcome = some ⟨oc__law_outcome, od__law_outcome, .func (PySem.W.fnOf "_law_outcome" "_law_outcome" (defArgs s__law_outcome) (defBody s__law_outcome) (defScope s__law_outcome) .none kV__law_outcome dc__law_outcome pm__law_outcome an__law_outcome cd__law_outcome ct__law_outcome), sl__law_outcome⟩) (w__law_outcome : PySem.W.codeIn K cd__law_outcome "_law_outcome" = true) (k__law_outcome : PySem.W.keepIn K (.ref f__law_outcome) = true)
    {f__law_over : Addr} {od__law_over an__law_over : Option Addr} {sl__law_over : Array (Option Value)} {oc__law_over kV__law_over dc__law_over pm__law_over cd__law_over ct__law_over : Value}
    (a__law_over : PySem.W.nsIn K mainGlobals "_law_over" = some (some (.ref f__law_over)))
    (l__law_over : K.lookup f__law_over = some ⟨oc__law_over, od__law_over, .func (PySem.W.fnOf "_law_over" "_law_over" (defArgs s__law_over) (defBody s__law_over) (defScope s__law_over) .none kV__law_over dc__law_over pm__law_over an__law_over cd__law_over ct__law_over), sl__law_over⟩) (w__law_over : PySem.W.codeIn K cd__law_over "_law_over" = true) (k__law_over : PySem.W.keepIn K (.ref f__law_over) = true)
    {f__law_pick : Addr} {od__law_pick an__law_pick : Option Addr} {sl__law_pick : Array (Option Value)} {oc__law_pick kV__law_pick dc__law_pick pm__law_pick cd__law_pick ct__law_pick : Value}
    (a__law_pick : PySem.W.nsIn K mainGlobals "_law_pick" = some (some (.ref f__law_pick)))
    (l__law_pick : K.lookup f__law_pick = some ⟨oc__law_pick, od__law_pick, .func (PySem.W.fnOf "_law_pick" "_law_pick" (defArgs s__law_pick) (defBody s__law_pick) (defScope s__law_pick) .none kV__law_pick dc__law_pick pm__law_pick an__law_pick cd__law_pick ct__law_pick), sl__law_pick⟩) (w__law_pick : PySem.W.codeIn K cd__law_pick "_law_pick" = true) (k__law_pick : PySem.W.keepIn K (.ref f__law_pick) = true)
    {f__law_instruction : Addr} {od__law_instruction an__law_instruction : Option Addr} {sl__law_instruction : Array (Option Value)} {oc__law_instruction kV__law_instruction dc__law_instruction pm__law_instruction cd__law_instruction ct__law_instruction : Value}
    (a__law_instruction : PySem.W.nsIn K mainGlobals "_law_instruction" = some (some (.ref f__law_instruction)))
    (l__law_instruction : K.lookup f__law_instruction = some ⟨oc__law_instruction, od__law_instruction, .func (PySem.W.fnOf "_law_instruction" "_law_instruction" (defArgs s__law_instruction) (defBody s__law_instruction) (defScope s__law_instruction) .none kV__law_instruction dc__law_instruction pm__law_instruction an__law_instruction cd__law_instruction ct__law_instruction), sl__law_instruction⟩) (w__law_instruction : PySem.W.codeIn K cd__law_instruction "_law_instruction" = true) (k__law_instruction : PySem.W.keepIn K (.ref f__law_instruction) = true)
    {f__law_program : Addr} {od__law_program an__law_program : Option Addr} {sl__law_program : Array (Option Value)} {oc__law_program kV__law_program dc__law_program pm__law_program cd__law_program ct__law_program : Value}
    (a__law_program : PySem.W.nsIn K mainGlobals "_law_program" = some (some (.ref f__law_program)))
    (l__law_program : K.lookup f__law_program = some ⟨oc__law_program, od__law_program, .func (PySem.W.fnOf "_law_program" "_law_program" (defArgs s__law_program) (defBody s__law_program) (defScope s__law_program) .none kV__law_program dc__law_program pm__law_program an__law_program cd__law_program ct__law_program), sl__law_program⟩) (w__law_program : PySem.W.codeIn K cd__law_program "_law_program" = true) (k__law_program : PySem.W.keepIn K (.ref f__law_program) = true)
    {f_is_design : Addr} {od_is_design an_is_design : Option Addr} {sl_is_design : Array (Option Value)} {oc_is_design kV_is_design dc_is_design pm_is_design cd_is_design ct_is_design : Value}
    (a_is_design : PySem.W.nsIn K mainGlobals "is_design" = some (some (.ref f_is_design)))
    (l_is_design : K.lookup f_is_design = some ⟨oc_is_design, od_is_design, .func (PySem.W.fnOf "is_design" "is_design" (defArgs s_is_design) (defBody s_is_design) (defScope s_is_design) .none kV_is_design dc_is_design pm_is_design an_is_design cd_is_design ct_is_design), sl_is_design⟩) (w_is_design : PySem.W.codeIn K cd_is_design "is_design" = true) (k_is_design : PySem.W.keepIn K (.ref f_is_design) = true)
    {f_check_design : Addr} {od_check_design an_check_design : Option Addr} {sl_check_design : Array (Option Value)} {oc_check_design kV_check_design dc_check_design pm_check_design cd_check_design ct_check_design : Value}
    (a_check_design : PySem.W.nsIn K mainGlobals "check_design" = some (some (.ref f_check_design)))
    (l_check_design : K.lookup f_check_design = some ⟨oc_check_design, od_check_design, .func (PySem.W.fnOf "check_design" "check_design" (defArgs s_check_design) (defBody s_check_design) (defScope s_check_design) .none kV_check_design dc_check_design pm_check_design an_check_design cd_check_design ct_check_design), sl_check_design⟩) (w_check_design : PySem.W.codeIn K cd_check_design "check_design" = true) (k_check_design : PySem.W.keepIn K (.ref f_check_design) = true)
    {f_is_number : Addr} {od_is_number an_is_number : Option Addr} {sl_is_number : Array (Option Value)} {oc_is_number kV_is_number dc_is_number pm_is_number cd_is_number ct_is_number : Value}
    (a_is_number : PySem.W.nsIn K mainGlobals "is_number" = some (some (.ref f_is_number)))
    (l_is_number : K.lookup f_is_number = some ⟨oc_is_number, od_is_number, .func (PySem.W.fnOf "is_number" "is_number" (defArgs s_is_number) (defBody s_is_number) (defScope s_is_number) .none kV_is_number dc_is_number pm_is_number an_is_number cd_is_number ct_is_number), sl_is_number⟩) (w_is_number : PySem.W.codeIn K cd_is_number "is_number" = true) (k_is_number : PySem.W.keepIn K (.ref f_is_number) = true)
    {f_is_instruction : Addr} {od_is_instruction an_is_instruction : Option Addr} {sl_is_instruction : Array (Option Value)} {oc_is_instruction kV_is_instruction dc_is_instruction pm_is_instruction cd_is_instruction ct_is_instruction : Value}
    (a_is_instruction : PySem.W.nsIn K mainGlobals "is_instruction" = some (some (.ref f_is_instruction)))
    (l_is_instruction : K.lookup f_is_instruction = some ⟨oc_is_instruction, od_is_instruction, .func (PySem.W.fnOf "is_instruction" "is_instruction" (defArgs s_is_instruction) (defBody s_is_instruction) (defScope s_is_instruction) .none kV_is_instruction dc_is_instruction pm_is_instruction an_is_instruction cd_is_instruction ct_is_instruction), sl_is_instruction⟩) (w_is_instruction : PySem.W.codeIn K cd_is_instruction "is_instruction" = true) (k_is_instruction : PySem.W.keepIn K (.ref f_is_instruction) = true)
    {f_is_core : Addr} {od_is_core an_is_core : Option Addr} {sl_is_core : Array (Option Value)} {oc_is_core kV_is_core dc_is_core pm_is_core cd_is_core ct_is_core : Value}
    (a_is_core : PySem.W.nsIn K mainGlobals "is_core" = some (some (.ref f_is_core)))
    (l_is_core : K.lookup f_is_core = some ⟨oc_is_core, od_is_core, .func (PySem.W.fnOf "is_core" "is_core" (defArgs s_is_core) (defBody s_is_core) (defScope s_is_core) .none kV_is_core dc_is_core pm_is_core an_is_core cd_is_core ct_is_core), sl_is_core⟩) (w_is_core : PySem.W.codeIn K cd_is_core "is_core" = true) (k_is_core : PySem.W.keepIn K (.ref f_is_core) = true)
    {f_check_program : Addr} {od_check_program an_check_program : Option Addr} {sl_check_program : Array (Option Value)} {oc_check_program kV_check_program dc_check_program pm_check_program cd_check_program ct_check_program : Value}
    (a_check_program : PySem.W.nsIn K mainGlobals "check_program" = some (some (.ref f_check_program)))
    (l_check_program : K.lookup f_check_program = some ⟨oc_check_program, od_check_program, .func (PySem.W.fnOf "check_program" "check_program" (defArgs s_check_program) (defBody s_check_program) (defScope s_check_program) .none kV_check_program dc_check_program pm_check_program an_check_program cd_check_program ct_check_program), sl_check_program⟩) (w_check_program : PySem.W.codeIn K cd_check_program "check_program" = true) (k_check_program : PySem.W.keepIn K (.ref f_check_program) = true)
    {f_is_reading : Addr} {od_is_reading an_is_reading : Option Addr} {sl_is_reading : Array (Option Value)} {oc_is_reading kV_is_reading dc_is_reading pm_is_reading cd_is_reading ct_is_reading : Value}
    (a_is_reading : PySem.W.nsIn K mainGlobals "is_reading" = some (some (.ref f_is_reading)))
    (l_is_reading : K.lookup f_is_reading = some ⟨oc_is_reading, od_is_reading, .func (PySem.W.fnOf "is_reading" "is_reading" (defArgs s_is_reading) (defBody s_is_reading) (defScope s_is_reading) .none kV_is_reading dc_is_reading pm_is_reading an_is_reading cd_is_reading ct_is_reading), sl_is_reading⟩) (w_is_reading : PySem.W.codeIn K cd_is_reading "is_reading" = true) (k_is_reading : PySem.W.keepIn K (.ref f_is_reading) = true)
    {f_is_writing : Addr} {od_is_writing an_is_writing : Option Addr} {sl_is_writing : Array (Option Value)} {oc_is_writing kV_is_writing dc_is_writing pm_is_writing cd_is_writing ct_is_writing : Value}
    (a_is_writing : PySem.W.nsIn K mainGlobals "is_writing" = some (some (.ref f_is_writing)))
    (l_is_writing : K.lookup f_is_writing = some ⟨oc_is_writing, od_is_writing, .func (PySem.W.fnOf "is_writing" "is_writing" (defArgs s_is_writing) (defBody s_is_writing) (defScope s_is_writing) .none kV_is_writing dc_is_writing pm_is_writing an_is_writing cd_is_writing ct_is_writing), sl_is_writing⟩) (w_is_writing : PySem.W.codeIn K cd_is_writing "is_writing" = true) (k_is_writing : PySem.W.keepIn K (.ref f_is_writing) = true)
    {f_cell_of : Addr} {od_cell_of an_cell_of : Option Addr} {sl_cell_of : Array (Option Value)} {oc_cell_of kV_cell_of dc_cell_of pm_cell_of cd_cell_of ct_cell_of : Value}
    (a_cell_of : PySem.W.nsIn K mainGlobals "cell_of" = some (some (.ref f_cell_of)))
    (l_cell_of : K.lookup f_cell_of = some ⟨oc_cell_of, od_cell_of, .func (PySem.W.fnOf "cell_of" "cell_of" (defArgs s_cell_of) (defBody s_cell_of) (defScope s_cell_of) .none kV_cell_of dc_cell_of pm_cell_of an_cell_of cd_cell_of ct_cell_of), sl_cell_of⟩) (w_cell_of : PySem.W.codeIn K cd_cell_of "cell_of" = true) (k_cell_of : PySem.W.keepIn K (.ref f_cell_of) = true)
    {f_is_kept_behind_guard : Addr} {od_is_kept_behind_guard an_is_kept_behind_guard : Option Addr} {sl_is_kept_behind_guard : Array (Option Value)} {oc_is_kept_behind_guard kV_is_kept_behind_guard dc_is_kept_behind_guard pm_is_kept_behind_guard cd_is_kept_behind_guard ct_is_kept_behind_guard : Value}
    (a_is_kept_behind_guard : PySem.W.nsIn K mainGlobals "is_kept_behind_guard" = some (some (.ref f_is_kept_behind_guard)))
    (l_is_kept_behind_guard : K.lookup f_is_kept_behind_guard = some ⟨oc_is_kept_behind_guard, od_is_kept_behind_guard, .func (PySem.W.fnOf "is_kept_behind_guard" "is_kept_behind_guard" (defArgs s_is_kept_behind_guard) (defBody s_is_kept_behind_guard) (defScope s_is_kept_behind_guard) .none kV_is_kept_behind_guard dc_is_kept_behind_guard pm_is_kept_behind_guard an_is_kept_behind_guard cd_is_kept_behind_guard ct_is_kept_behind_guard), sl_is_kept_behind_guard⟩) (w_is_kept_behind_guard : PySem.W.codeIn K cd_is_kept_behind_guard "is_kept_behind_guard" = true) (k_is_kept_behind_guard : PySem.W.keepIn K (.ref f_is_kept_behind_guard) = true)
    {f_is_kept_on_cell : Addr} {od_is_kept_on_cell an_is_kept_on_cell : Option Addr} {sl_is_kept_on_cell : Array (Option Value)} {oc_is_kept_on_cell kV_is_kept_on_cell dc_is_kept_on_cell pm_is_kept_on_cell cd_is_kept_on_cell ct_is_kept_on_cell : Value}
    (a_is_kept_on_cell : PySem.W.nsIn K mainGlobals "is_kept_on_cell" = some (some (.ref f_is_kept_on_cell)))
    (l_is_kept_on_cell : K.lookup f_is_kept_on_cell = some ⟨oc_is_kept_on_cell, od_is_kept_on_cell, .func (PySem.W.fnOf "is_kept_on_cell" "is_kept_on_cell" (defArgs s_is_kept_on_cell) (defBody s_is_kept_on_cell) (defScope s_is_kept_on_cell) .none kV_is_kept_on_cell dc_is_kept_on_cell pm_is_kept_on_cell an_is_kept_on_cell cd_is_kept_on_cell ct_is_kept_on_cell), sl_is_kept_on_cell⟩) (w_is_kept_on_cell : PySem.W.codeIn K cd_is_kept_on_cell "is_kept_on_cell" = true) (k_is_kept_on_cell : PySem.W.keepIn K (.ref f_is_kept_on_cell) = true)
    {f_kind_of : Addr} {od_kind_of an_kind_of : Option Addr} {sl_kind_of : Array (Option Value)} {oc_kind_of kV_kind_of dc_kind_of pm_kind_of cd_kind_of ct_kind_of : Value}
    (a_kind_of : PySem.W.nsIn K mainGlobals "kind_of" = some (some (.ref f_kind_of)))
    (l_kind_of : K.lookup f_kind_of = some ⟨oc_kind_of, od_kind_of, .func (PySem.W.fnOf "kind_of" "kind_of" (defArgs s_kind_of) (defBody s_kind_of) (defScope s_kind_of) .none kV_kind_of dc_kind_of pm_kind_of an_kind_of cd_kind_of ct_kind_of), sl_kind_of⟩) (w_kind_of : PySem.W.codeIn K cd_kind_of "kind_of" = true) (k_kind_of : PySem.W.keepIn K (.ref f_kind_of) = true)
    {f_last_read : Addr} {od_last_read an_last_read : Option Addr} {sl_last_read : Array (Option Value)} {oc_last_read kV_last_read dc_last_read pm_last_read cd_last_read ct_last_read : Value}
    (a_last_read : PySem.W.nsIn K mainGlobals "last_read" = some (some (.ref f_last_read)))
    (l_last_read : K.lookup f_last_read = some ⟨oc_last_read, od_last_read, .func (PySem.W.fnOf "last_read" "last_read" (defArgs s_last_read) (defBody s_last_read) (defScope s_last_read) .none kV_last_read dc_last_read pm_last_read an_last_read cd_last_read ct_last_read), sl_last_read⟩) (w_last_read : PySem.W.codeIn K cd_last_read "last_read" = true) (k_last_read : PySem.W.keepIn K (.ref f_last_read) = true)
    {f_used_by : Addr} {od_used_by an_used_by : Option Addr} {sl_used_by : Array (Option Value)} {oc_used_by kV_used_by dc_used_by pm_used_by cd_used_by ct_used_by : Value}
    (a_used_by : PySem.W.nsIn K mainGlobals "used_by" = some (some (.ref f_used_by)))
    (l_used_by : K.lookup f_used_by = some ⟨oc_used_by, od_used_by, .func (PySem.W.fnOf "used_by" "used_by" (defArgs s_used_by) (defBody s_used_by) (defScope s_used_by) .none kV_used_by dc_used_by pm_used_by an_used_by cd_used_by ct_used_by), sl_used_by⟩) (w_used_by : PySem.W.codeIn K cd_used_by "used_by" = true) (k_used_by : PySem.W.keepIn K (.ref f_used_by) = true)
    {f_is_kept : Addr} {od_is_kept an_is_kept : Option Addr} {sl_is_kept : Array (Option Value)} {oc_is_kept kV_is_kept dc_is_kept pm_is_kept cd_is_kept ct_is_kept : Value}
    (a_is_kept : PySem.W.nsIn K mainGlobals "is_kept" = some (some (.ref f_is_kept)))
    (l_is_kept : K.lookup f_is_kept = some ⟨oc_is_kept, od_is_kept, .func (PySem.W.fnOf "is_kept" "is_kept" (defArgs s_is_kept) (defBody s_is_kept) (defScope s_is_kept) .none kV_is_kept dc_is_kept pm_is_kept an_is_kept cd_is_kept ct_is_kept), sl_is_kept⟩) (w_is_kept : PySem.W.codeIn K cd_is_kept "is_kept" = true) (k_is_kept : PySem.W.keepIn K (.ref f_is_kept) = true)
    {f_last_writing : Addr} {od_last_writing an_last_writing : Option Addr} {sl_last_writing : Array (Option Value)} {oc_last_writing kV_last_writing dc_last_writing pm_last_writing cd_last_writing ct_last_writing : Value}
    (a_last_writing : PySem.W.nsIn K mainGlobals "last_writing" = some (some (.ref f_last_writing)))
    (l_last_writing : K.lookup f_last_writing = some ⟨oc_last_writing, od_last_writing, .func (PySem.W.fnOf "last_writing" "last_writing" (defArgs s_last_writing) (defBody s_last_writing) (defScope s_last_writing) .none kV_last_writing dc_last_writing pm_last_writing an_last_writing cd_last_writing ct_last_writing), sl_last_writing⟩) (w_last_writing : PySem.W.codeIn K cd_last_writing "last_writing" = true) (k_last_writing : PySem.W.keepIn K (.ref f_last_writing) = true)
    {f_waits_for_copied : Addr} {od_waits_for_copied an_waits_for_copied : Option Addr} {sl_waits_for_copied : Array (Option Value)} {oc_waits_for_copied kV_waits_for_copied dc_waits_for_copied pm_waits_for_copied cd_waits_for_copied ct_waits_for_copied : Value}
    (a_waits_for_copied : PySem.W.nsIn K mainGlobals "waits_for_copied" = some (some (.ref f_waits_for_copied)))
    (l_waits_for_copied : K.lookup f_waits_for_copied = some ⟨oc_waits_for_copied, od_waits_for_copied, .func (PySem.W.fnOf "waits_for_copied" "waits_for_copied" (defArgs s_waits_for_copied) (defBody s_waits_for_copied) (defScope s_waits_for_copied) .none kV_waits_for_copied dc_waits_for_copied pm_waits_for_copied an_waits_for_copied cd_waits_for_copied ct_waits_for_copied), sl_waits_for_copied⟩) (w_waits_for_copied : PySem.W.codeIn K cd_waits_for_copied "waits_for_copied" = true) (k_waits_for_copied : PySem.W.keepIn K (.ref f_waits_for_copied) = true)
    {f_must_wait : Addr} {od_must_wait an_must_wait : Option Addr} {sl_must_wait : Array (Option Value)} {oc_must_wait kV_must_wait dc_must_wait pm_must_wait cd_must_wait ct_must_wait : Value}
    (a_must_wait : PySem.W.nsIn K mainGlobals "must_wait" = some (some (.ref f_must_wait)))
    (l_must_wait : K.lookup f_must_wait = some ⟨oc_must_wait, od_must_wait, .func (PySem.W.fnOf "must_wait" "must_wait" (defArgs s_must_wait) (defBody s_must_wait) (defScope s_must_wait) .none kV_must_wait dc_must_wait pm_must_wait an_must_wait cd_must_wait ct_must_wait), sl_must_wait⟩) (w_must_wait : PySem.W.codeIn K cd_must_wait "must_wait" = true) (k_must_wait : PySem.W.keepIn K (.ref f_must_wait) = true)
    {f_source_of : Addr} {od_source_of an_source_of : Option Addr} {sl_source_of : Array (Option Value)} {oc_source_of kV_source_of dc_source_of pm_source_of cd_source_of ct_source_of : Value}
    (a_source_of : PySem.W.nsIn K mainGlobals "source_of" = some (some (.ref f_source_of)))
    (l_source_of : K.lookup f_source_of = some ⟨oc_source_of, od_source_of, .func (PySem.W.fnOf "source_of" "source_of" (defArgs s_source_of) (defBody s_source_of) (defScope s_source_of) .none kV_source_of dc_source_of pm_source_of an_source_of cd_source_of ct_source_of), sl_source_of⟩) (w_source_of : PySem.W.codeIn K cd_source_of "source_of" = true) (k_source_of : PySem.W.keepIn K (.ref f_source_of) = true)
    {f_Step_init : Addr} {od_Step_init an_Step_init : Option Addr} {sl_Step_init : Array (Option Value)} {oc_Step_init kV_Step_init dc_Step_init pm_Step_init cd_Step_init ct_Step_init : Value}
    (l_Step_init : K.lookup f_Step_init = some ⟨oc_Step_init, od_Step_init, .func (PySem.W.fnOf "__init__" "Step.__init__" (defArgs s_Step_init) (defBody s_Step_init) (defScope s_Step_init) .none kV_Step_init dc_Step_init pm_Step_init an_Step_init cd_Step_init ct_Step_init), sl_Step_init⟩) (w_Step_init : PySem.W.codeIn K cd_Step_init "Step.__init__" = true) (k_Step_init : PySem.W.keepIn K (.ref f_Step_init) = true)
    {f_make_steps : Addr} {od_make_steps an_make_steps : Option Addr} {sl_make_steps : Array (Option Value)} {oc_make_steps kV_make_steps dc_make_steps pm_make_steps cd_make_steps ct_make_steps : Value}
    (a_make_steps : PySem.W.nsIn K mainGlobals "make_steps" = some (some (.ref f_make_steps)))
    (l_make_steps : K.lookup f_make_steps = some ⟨oc_make_steps, od_make_steps, .func (PySem.W.fnOf "make_steps" "make_steps" (defArgs s_make_steps) (defBody s_make_steps) (defScope s_make_steps) .none kV_make_steps dc_make_steps pm_make_steps an_make_steps cd_make_steps ct_make_steps), sl_make_steps⟩) (w_make_steps : PySem.W.codeIn K cd_make_steps "make_steps" = true) (k_make_steps : PySem.W.keepIn K (.ref f_make_steps) = true)
    {f_steps_on : Addr} {od_steps_on an_steps_on : Option Addr} {sl_steps_on : Array (Option Value)} {oc_steps_on kV_steps_on dc_steps_on pm_steps_on cd_steps_on ct_steps_on : Value}
    (a_steps_on : PySem.W.nsIn K mainGlobals "steps_on" = some (some (.ref f_steps_on)))
    (l_steps_on : K.lookup f_steps_on = some ⟨oc_steps_on, od_steps_on, .func (PySem.W.fnOf "steps_on" "steps_on" (defArgs s_steps_on) (defBody s_steps_on) (defScope s_steps_on) .none kV_steps_on dc_steps_on pm_steps_on an_steps_on cd_steps_on ct_steps_on), sl_steps_on⟩) (w_steps_on : PySem.W.codeIn K cd_steps_on "steps_on" = true) (k_steps_on : PySem.W.keepIn K (.ref f_steps_on) = true)
    {f_checked_steps : Addr} {od_checked_steps an_checked_steps : Option Addr} {sl_checked_steps : Array (Option Value)} {oc_checked_steps kV_checked_steps dc_checked_steps pm_checked_steps cd_checked_steps ct_checked_steps : Value}
    (a_checked_steps : PySem.W.nsIn K mainGlobals "checked_steps" = some (some (.ref f_checked_steps)))
    (l_checked_steps : K.lookup f_checked_steps = some ⟨oc_checked_steps, od_checked_steps, .func (PySem.W.fnOf "checked_steps" "checked_steps" (defArgs s_checked_steps) (defBody s_checked_steps) (defScope s_checked_steps) .none kV_checked_steps dc_checked_steps pm_checked_steps an_checked_steps cd_checked_steps ct_checked_steps), sl_checked_steps⟩) (w_checked_steps : PySem.W.codeIn K cd_checked_steps "checked_steps" = true) (k_checked_steps : PySem.W.keepIn K (.ref f_checked_steps) = true)
    {f_first_state : Addr} {od_first_state an_first_state : Option Addr} {sl_first_state : Array (Option Value)} {oc_first_state kV_first_state dc_first_state pm_first_state cd_first_state ct_first_state : Value}
    (a_first_state : PySem.W.nsIn K mainGlobals "first_state" = some (some (.ref f_first_state)))
    (l_first_state : K.lookup f_first_state = some ⟨oc_first_state, od_first_state, .func (PySem.W.fnOf "first_state" "first_state" (defArgs s_first_state) (defBody s_first_state) (defScope s_first_state) .none kV_first_state dc_first_state pm_first_state an_first_state cd_first_state ct_first_state), sl_first_state⟩) (w_first_state : PySem.W.codeIn K cd_first_state "first_state" = true) (k_first_state : PySem.W.keepIn K (.ref f_first_state) = true)
    {f_number_of : Addr} {od_number_of an_number_of : Option Addr} {sl_number_of : Array (Option Value)} {oc_number_of kV_number_of dc_number_of pm_number_of cd_number_of ct_number_of : Value}
    (a_number_of : PySem.W.nsIn K mainGlobals "number_of" = some (some (.ref f_number_of)))
    (l_number_of : K.lookup f_number_of = some ⟨oc_number_of, od_number_of, .func (PySem.W.fnOf "number_of" "number_of" (defArgs s_number_of) (defBody s_number_of) (defScope s_number_of) .none kV_number_of dc_number_of pm_number_of an_number_of cd_number_of ct_number_of), sl_number_of⟩) (w_number_of : PySem.W.codeIn K cd_number_of "number_of" = true) (k_number_of : PySem.W.keepIn K (.ref f_number_of) = true)
    {f_word_used : Addr} {od_word_used an_word_used : Option Addr} {sl_word_used : Array (Option Value)} {oc_word_used kV_word_used dc_word_used pm_word_used cd_word_used ct_word_used : Value}
    (a_word_used : PySem.W.nsIn K mainGlobals "word_used" = some (some (.ref f_word_used)))
    (l_word_used : K.lookup f_word_used = some ⟨oc_word_used, od_word_used, .func (PySem.W.fnOf "word_used" "word_used" (defArgs s_word_used) (defBody s_word_used) (defScope s_word_used) .none kV_word_used dc_word_used pm_word_used an_word_used cd_word_used ct_word_used), sl_word_used⟩) (w_word_used : PySem.W.codeIn K cd_word_used "word_used" = true) (k_word_used : PySem.W.keepIn K (.ref f_word_used) = true)
    {f_ends_core : Addr} {od_ends_core an_ends_core : Option Addr} {sl_ends_core : Array (Option Value)} {oc_ends_core kV_ends_core dc_ends_core pm_ends_core cd_ends_core ct_ends_core : Value}
    (a_ends_core : PySem.W.nsIn K mainGlobals "ends_core" = some (some (.ref f_ends_core)))
    (l_ends_core : K.lookup f_ends_core = some ⟨oc_ends_core, od_ends_core, .func (PySem.W.fnOf "ends_core" "ends_core" (defArgs s_ends_core) (defBody s_ends_core) (defScope s_ends_core) .none kV_ends_core dc_ends_core pm_ends_core an_ends_core cd_ends_core ct_ends_core), sl_ends_core⟩) (w_ends_core : PySem.W.codeIn K cd_ends_core "ends_core" = true) (k_ends_core : PySem.W.keepIn K (.ref f_ends_core) = true)
    {f_word_written : Addr} {od_word_written an_word_written : Option Addr} {sl_word_written : Array (Option Value)} {oc_word_written kV_word_written dc_word_written pm_word_written cd_word_written ct_word_written : Value}
    (a_word_written : PySem.W.nsIn K mainGlobals "word_written" = some (some (.ref f_word_written)))
    (l_word_written : K.lookup f_word_written = some ⟨oc_word_written, od_word_written, .func (PySem.W.fnOf "word_written" "word_written" (defArgs s_word_written) (defBody s_word_written) (defScope s_word_written) .none kV_word_written dc_word_written pm_word_written an_word_written cd_word_written ct_word_written), sl_word_written⟩) (w_word_written : PySem.W.codeIn K cd_word_written "word_written" = true) (k_word_written : PySem.W.keepIn K (.ref f_word_written) = true)
    {f_word_taken : Addr} {od_word_taken an_word_taken : Option Addr} {sl_word_taken : Array (Option Value)} {oc_word_taken kV_word_taken dc_word_taken pm_word_taken cd_word_taken ct_word_taken : Value}
    (a_word_taken : PySem.W.nsIn K mainGlobals "word_taken" = some (some (.ref f_word_taken)))
    (l_word_taken : K.lookup f_word_taken = some ⟨oc_word_taken, od_word_taken, .func (PySem.W.fnOf "word_taken" "word_taken" (defArgs s_word_taken) (defBody s_word_taken) (defScope s_word_taken) .none kV_word_taken dc_word_taken pm_word_taken an_word_taken cd_word_taken ct_word_taken), sl_word_taken⟩) (w_word_taken : PySem.W.codeIn K cd_word_taken "word_taken" = true) (k_word_taken : PySem.W.keepIn K (.ref f_word_taken) = true)
    {f_state_behind : Addr} {od_state_behind an_state_behind : Option Addr} {sl_state_behind : Array (Option Value)} {oc_state_behind kV_state_behind dc_state_behind pm_state_behind cd_state_behind ct_state_behind : Value}
    (a_state_behind : PySem.W.nsIn K mainGlobals "state_behind" = some (some (.ref f_state_behind)))
    (l_state_behind : K.lookup f_state_behind = some ⟨oc_state_behind, od_state_behind, .func (PySem.W.fnOf "state_behind" "state_behind" (defArgs s_state_behind) (defBody s_state_behind) (defScope s_state_behind) .none kV_state_behind dc_state_behind pm_state_behind an_state_behind cd_state_behind ct_state_behind), sl_state_behind⟩) (w_state_behind : PySem.W.codeIn K cd_state_behind "state_behind" = true) (k_state_behind : PySem.W.keepIn K (.ref f_state_behind) = true)
    {f_can_come : Addr} {od_can_come an_can_come : Option Addr} {sl_can_come : Array (Option Value)} {oc_can_come kV_can_come dc_can_come pm_can_come cd_can_come ct_can_come : Value}
    (a_can_come : PySem.W.nsIn K mainGlobals "can_come" = some (some (.ref f_can_come)))
    (l_can_come : K.lookup f_can_come = some ⟨oc_can_come, od_can_come, .func (PySem.W.fnOf "can_come" "can_come" (defArgs s_can_come) (defBody s_can_come) (defScope s_can_come) .none kV_can_come dc_can_come pm_can_come an_can_come cd_can_come ct_can_come), sl_can_come⟩) (w_can_come : PySem.W.codeIn K cd_can_come "can_come" = true) (k_can_come : PySem.W.keepIn K (.ref f_can_come) = true)
    {f_steps_now : Addr} {od_steps_now an_steps_now : Option Addr} {sl_steps_now : Array (Option Value)} {oc_steps_now kV_steps_now dc_steps_now pm_steps_now cd_steps_now ct_steps_now : Value}
    (a_steps_now : PySem.W.nsIn K mainGlobals "steps_now" = some (some (.ref f_steps_now)))
    (l_steps_now : K.lookup f_steps_now = some ⟨oc_steps_now, od_steps_now, .func (PySem.W.fnOf "steps_now" "steps_now" (defArgs s_steps_now) (defBody s_steps_now) (defScope s_steps_now) .none kV_steps_now dc_steps_now pm_steps_now an_steps_now cd_steps_now ct_steps_now), sl_steps_now⟩) (w_steps_now : PySem.W.codeIn K cd_steps_now "steps_now" = true) (k_steps_now : PySem.W.keepIn K (.ref f_steps_now) = true)
    {f_state_behind_row : Addr} {od_state_behind_row an_state_behind_row : Option Addr} {sl_state_behind_row : Array (Option Value)} {oc_state_behind_row kV_state_behind_row dc_state_behind_row pm_state_behind_row cd_state_behind_row ct_state_behind_row : Value}
    (a_state_behind_row : PySem.W.nsIn K mainGlobals "state_behind_row" = some (some (.ref f_state_behind_row)))
    (l_state_behind_row : K.lookup f_state_behind_row = some ⟨oc_state_behind_row, od_state_behind_row, .func (PySem.W.fnOf "state_behind_row" "state_behind_row" (defArgs s_state_behind_row) (defBody s_state_behind_row) (defScope s_state_behind_row) .none kV_state_behind_row dc_state_behind_row pm_state_behind_row an_state_behind_row cd_state_behind_row ct_state_behind_row), sl_state_behind_row⟩) (w_state_behind_row : PySem.W.codeIn K cd_state_behind_row "state_behind_row" = true) (k_state_behind_row : PySem.W.keepIn K (.ref f_state_behind_row) = true)
    {f_events_behind : Addr} {od_events_behind an_events_behind : Option Addr} {sl_events_behind : Array (Option Value)} {oc_events_behind kV_events_behind dc_events_behind pm_events_behind cd_events_behind ct_events_behind : Value}
    (a_events_behind : PySem.W.nsIn K mainGlobals "events_behind" = some (some (.ref f_events_behind)))
    (l_events_behind : K.lookup f_events_behind = some ⟨oc_events_behind, od_events_behind, .func (PySem.W.fnOf "events_behind" "events_behind" (defArgs s_events_behind) (defBody s_events_behind) (defScope s_events_behind) .none kV_events_behind dc_events_behind pm_events_behind an_events_behind cd_events_behind ct_events_behind), sl_events_behind⟩) (w_events_behind : PySem.W.codeIn K cd_events_behind "events_behind" = true) (k_events_behind : PySem.W.keepIn K (.ref f_events_behind) = true)
    {f_is_over : Addr} {od_is_over an_is_over : Option Addr} {sl_is_over : Array (Option Value)} {oc_is_over kV_is_over dc_is_over pm_is_over cd_is_over ct_is_over : Value}
    (a_is_over : PySem.W.nsIn K mainGlobals "is_over" = some (some (.ref f_is_over)))
    (l_is_over : K.lookup f_is_over = some ⟨oc_is_over, od_is_over, .func (PySem.W.fnOf "is_over" "is_over" (defArgs s_is_over) (defBody s_is_over) (defScope s_is_over) .none kV_is_over dc_is_over pm_is_over an_is_over cd_is_over ct_is_over), sl_is_over⟩) (w_is_over : PySem.W.codeIn K cd_is_over "is_over" = true) (k_is_over : PySem.W.keepIn K (.ref f_is_over) = true)
    {f_has_ended : Addr} {od_has_ended an_has_ended : Option Addr} {sl_has_ended : Array (Option Value)} {oc_has_ended kV_has_ended dc_has_ended pm_has_ended cd_has_ended ct_has_ended : Value}
    (a_has_ended : PySem.W.nsIn K mainGlobals "has_ended" = some (some (.ref f_has_ended)))
    (l_has_ended : K.lookup f_has_ended = some ⟨oc_has_ended, od_has_ended, .func (PySem.W.fnOf "has_ended" "has_ended" (defArgs s_has_ended) (defBody s_has_ended) (defScope s_has_ended) .none kV_has_ended dc_has_ended pm_has_ended an_has_ended cd_has_ended ct_has_ended), sl_has_ended⟩) (w_has_ended : PySem.W.codeIn K cd_has_ended "has_ended" = true) (k_has_ended : PySem.W.keepIn K (.ref f_has_ended) = true)
    {f_outcome_of : Addr} {od_outcome_of an_outcome_of : Option Addr} {sl_outcome_of : Array (Option Value)} {oc_outcome_of kV_outcome_of dc_outcome_of pm_outcome_of cd_outcome_of ct_outcome_of : Value}
    (a_outcome_of : PySem.W.nsIn K mainGlobals "outcome_of" = some (some (.ref f_outcome_of)))
    (l_outcome_of : K.lookup f_outcome_of = some ⟨oc_outcome_of, od_outcome_of, .func (PySem.W.fnOf "outcome_of" "outcome_of" (defArgs s_outcome_of) (defBody s_outcome_of) (defScope s_outcome_of) .none kV_outcome_of dc_outcome_of pm_outcome_of an_outcome_of cd_outcome_of ct_outcome_of), sl_outcome_of⟩) (w_outcome_of : PySem.W.codeIn K cd_outcome_of "outcome_of" = true) (k_outcome_of : PySem.W.keepIn K (.ref f_outcome_of) = true)
    {f_told_by : Addr} {od_told_by an_told_by : Option Addr} {sl_told_by : Array (Option Value)} {oc_told_by kV_told_by dc_told_by pm_told_by cd_told_by ct_told_by : Value}
    (a_told_by : PySem.W.nsIn K mainGlobals "told_by" = some (some (.ref f_told_by)))
    (l_told_by : K.lookup f_told_by = some ⟨oc_told_by, od_told_by, .func (PySem.W.fnOf "told_by" "told_by" (defArgs s_told_by) (defBody s_told_by) (defScope s_told_by) .none kV_told_by dc_told_by pm_told_by an_told_by cd_told_by ct_told_by), sl_told_by⟩) (w_told_by : PySem.W.codeIn K cd_told_by "told_by" = true) (k_told_by : PySem.W.keepIn K (.ref f_told_by) = true)
    {f__law_not_made : Addr} {od__law_not_made an__law_not_made : Option Addr} {sl__law_not_made : Array (Option Value)} {oc__law_not_made kV__law_not_made dc__law_not_made pm__law_not_made cd__law_not_made ct__law_not_made : Value}
    (a__law_not_made : PySem.W.nsIn K mainGlobals "_law_not_made" = some (some (.ref f__law_not_made)))
    (l__law_not_made : K.lookup f__law_not_made = some ⟨oc__law_not_made, od__law_not_made, .func (PySem.W.fnOf "_law_not_made" "_law_not_made" (defArgs s__law_not_made) (defBody s__law_not_made) (defScope s__law_not_made) .none kV__law_not_made dc__law_not_made pm__law_not_made an__law_not_made cd__law_not_made ct__law_not_made), sl__law_not_made⟩) (w__law_not_made : PySem.W.codeIn K cd__law_not_made "_law_not_made" = true) (k__law_not_made : PySem.W.keepIn K (.ref f__law_not_made) = true)
    {f_law : Addr} {od_law an_law : Option Addr} {sl_law : Array (Option Value)} {oc_law kV_law dc_law pm_law cd_law ct_law : Value}
    (a_law : PySem.W.nsIn K mainGlobals "law" = some (some (.ref f_law)))
    (l_law : K.lookup f_law = some ⟨oc_law, od_law, .func (PySem.W.fnOf "law" "law" (defArgs s_law) (defBody s_law) (defScope s_law) .none kV_law dc_law pm_law an_law cd_law ct_law), sl_law⟩) (w_law : PySem.W.codeIn K cd_law "law" = true) (k_law : PySem.W.keepIn K (.ref f_law) = true)
    {f_Step : Addr} (a_Step : PySem.W.nsIn K mainGlobals "Step" = some (some (.ref f_Step))) (gA_Step : PySem.W.plainGet K f_Step Str.empty = true) (gB_Step : PySem.W.hasDictIn K f_Step = true) (gC_Step : PySem.W.plainOver K f_Step = true) (gD_Step : PySem.W.findIn K (.ref f_Step) "__setattr__" = some (some (.builtin "object.__setattr__"))) (mA_Step : PySem.W.makesIn K f_Step = true) (mB_Step : PySem.W.findIn K (.ref f_Step) "__init__" = some (some (.ref f_Step_init))) (mC_Step : PySem.W.isFn K (.ref f_Step_init) = true) (mD_Step : PySem.W.keepIn K (.ref f_Step) = true)
    (na_Step_behind : PySem.W.findIn K (.ref f_Step) "behind" = some none)
    (na_Step_event : PySem.W.findIn K (.ref f_Step) "event" = some none)
    (na_Step_instruction : PySem.W.findIn K (.ref f_Step) "instruction" = some none)
    (na_Step_source : PySem.W.findIn K (.ref f_Step) "source" = some none)
    (na_Step_waits : PySem.W.findIn K (.ref f_Step) "waits" = some none)
    (z_all : PySem.W.nsIn K mainGlobals "all" = some none)
    (z_bool : PySem.W.nsIn K mainGlobals "bool" = some none)
    (z_enumerate : PySem.W.nsIn K mainGlobals "enumerate" = some none)
    (z_int : PySem.W.nsIn K mainGlobals "int" = some none)
    (z_isinstance : PySem.W.nsIn K mainGlobals "isinstance" = some none)
    (z_len : PySem.W.nsIn K mainGlobals "len" = some none)
    (z_list : PySem.W.nsIn K mainGlobals "list" = some none)
    (z_min : PySem.W.nsIn K mainGlobals "min" = some none)
    (z_range : PySem.W.nsIn K mainGlobals "range" = some none)
    (z_sorted : PySem.W.nsIn K mainGlobals "sorted" = some none)
    (z_str : PySem.W.nsIn K mainGlobals "str" = some none)
    (z_tuple : PySem.W.nsIn K mainGlobals "tuple" = some none)
    (z_zip : PySem.W.nsIn K mainGlobals "zip" = some none)
    {f_WORDS : Addr} (a_WORDS : PySem.W.nsIn K mainGlobals "WORDS" = some (some (.ref f_WORDS))) (r_WORDS : ∀ (Z : Zx) β H, Z.K = K → Rep Z β H (.ref f_WORDS) c_WORDS)
    {f_FIRST_CELLS : Addr} (a_FIRST_CELLS : PySem.W.nsIn K mainGlobals "FIRST_CELLS" = some (some (.ref f_FIRST_CELLS))) (r_FIRST_CELLS : ∀ (Z : Zx) β H, Z.K = K → Rep Z β H (.ref f_FIRST_CELLS) c_FIRST_CELLS)
    {f_GREATEST : Addr} {e_GREATEST : Array DictEntry} {y_GREATEST : Nat} (a_GREATEST : PySem.W.nsIn K mainGlobals "GREATEST" = some (some (.ref f_GREATEST))) (l_GREATEST : K.lookup f_GREATEST = some ⟨.type "dict", none, .dict e_GREATEST y_GREATEST, #[]⟩) (i_GREATEST : PySem.W.KeysLit w.params e_GREATEST.toList) (j_GREATEST : (f_GREATEST == sysModules) = false) (t_GREATEST : TabAt K e_GREATEST.toList t_GREATEST)
    {u_MOST_CORES : Value} (a_MOST_CORES : PySem.W.nsIn K mainGlobals "MOST_CORES" = some (some u_MOST_CORES)) (r_MOST_CORES : RelV (.int (3)) u_MOST_CORES)
    {u_MOST_IN_CORE : Value} (a_MOST_IN_CORE : PySem.W.nsIn K mainGlobals "MOST_IN_CORE" = some (some u_MOST_IN_CORE)) (r_MOST_IN_CORE : RelV (.int (5)) u_MOST_IN_CORE)
    {u_MOST_IN_ALL : Value} (a_MOST_IN_ALL : PySem.W.nsIn K mainGlobals "MOST_IN_ALL" = some (some u_MOST_IN_ALL)) (r_MOST_IN_ALL : RelV (.int (10)) u_MOST_IN_ALL)
    {u_LEFT_OUT : Value} (a_LEFT_OUT : PySem.W.nsIn K mainGlobals "LEFT_OUT" = some (some u_LEFT_OUT)) (r_LEFT_OUT : RelV (.int (-1)) u_LEFT_OUT)
    {f_PairError : Addr} (a_PairError : PySem.W.nsIn K mainGlobals "PairError" = some (some (.ref f_PairError)))
    {f_NotMade : Addr} (a_NotMade : PySem.W.nsIn K mainGlobals "NotMade" = some (some (.ref f_NotMade))) (x_NotMade : PySem.W.excIn K f_NotMade [.type "ValueError", .type "Exception", .type "BaseException", .type "object"] "ValueError.__new__" = true) (k_NotMade : PySem.W.keepIn K (.ref f_NotMade) = true) (b_NotMade : PySem.W.subIn K (.ref f_NotMade) (.type "BaseException") = some true) (t_NotMade : PySem.W.typeIn K (.ref f_NotMade) = some (.type "type")) (u_NotMade : PySem.W.exmOne K (.ref f_NotMade) (.ref f_PairError) = some true)
    (ea_NotMade : PySem.W.findIn K (.ref f_NotMade) "__getattribute__" = some (some (.builtin "BaseException.__getattribute__"))) (eb_NotMade : PySem.W.findIn K (.ref f_NotMade) "__getattr__" = some none) (ec_NotMade : PySem.W.hasDictIn K f_NotMade = true) (ed_NotMade : PySem.W.findIn K (.ref f_NotMade) "__class__" = some (some (.builtin "object.__class__"))) (ee_NotMade : PySem.W.mroIn K f_NotMade (.type "object") = some true)
    (eg : PySem.W.specialIn K (.builtin "object.__class__") "__get__" = some (some (.builtin "getset_descriptor.__get__"))) (eh : PySem.W.takesIn K (.builtin "object.__class__") = some true)
    (i_made_made : PySem.W.kitOne K (.ref f_NotMade) (.ref f_NotMade) = some true)
    {cc_law : Addr} {ce_law : Value} {cdd_law : Option Addr} {cvs_law : Array Value} {csl_law : Array (Option Value)} (yc_law : cd_law = .ref cc_law) (yl_law : K.lookup cc_law = some ⟨ce_law, cdd_law, .fields cvs_law, csl_law⟩) (y1_law : cvs_law[11]? = some (.ref (tabAddr K "law"))) (yn_law : K.lookup (tabAddr K "law") = none) (yh_law : PySem.W.codeHdIn K cc_law (tabAddr K "law") = true)
    {cc_steps_on : Addr} {ce_steps_on : Value} {cdd_steps_on : Option Addr} {cvs_steps_on : Array Value} {csl_steps_on : Array (Option Value)} (yc_steps_on : cd_steps_on = .ref cc_steps_on) (yl_steps_on : K.lookup cc_steps_on = some ⟨ce_steps_on, cdd_steps_on, .fields cvs_steps_on, csl_steps_on⟩) (y1_steps_on : cvs_steps_on[11]? = some (.ref (tabAddr K "steps_on"))) (yn_steps_on : K.lookup (tabAddr K "steps_on") = none) (yh_steps_on : PySem.W.codeHdIn K cc_steps_on (tabAddr K "steps_on") = true)
    (y_nd : (tabAddr K "law" == tabAddr K "steps_on") = false) (own : DL.OwnTabs K mg ["law", "steps_on"] h) :
    LamX.LawAtS PySem.Challenge.rw_pairskept_k03_whole_rows w K (L2.CX PySem.Challenge.rw_pairskept_k03_whole_rows.prog w) 15 63 "script" mg fa h := by
  have e : f_law = fa := by
    have e := hfa.symm.trans (PySem.W.mg_of X G a_law)
    cases e
    rfl
  subst e
  subst yc_law
  subst yc_steps_on
  let T : Txt K w mg := {
    a__law_alike := f__law_alike, d__law_alike := _, F__law_alike := fun_mk (st := s__law_alike) l__law_alike w__law_alike k__law_alike, b__law_alike := (fun_mk (st := s__law_alike) l__law_alike w__law_alike k__law_alike).binds (ps := ["found", "due"]) fun _ _ _ _ _ _ us hl => match us, hl with | [_, _], _ => rfl, g__law_alike := PySem.W.mg_of X G a__law_alike,
    a__law_begin := f__law_begin, d__law_begin := _, F__law_begin := fun_mk (st := s__law_begin) l__law_begin w__law_begin k__law_begin, b__law_begin := (fun_mk (st := s__law_begin) l__law_begin w__law_begin k__law_begin).binds (ps := ["design", "program"]) fun _ _ _ _ _ _ us hl => match us, hl with | [_, _], _ => rfl, g__law_begin := PySem.W.mg_of X G a__law_begin,
    a__law_taken := f__law_taken, d__law_taken := _, F__law_taken := fun_mk (st := s__law_taken) l__law_taken w__law_taken k__law_taken, b__law_taken := (fun_mk (st := s__law_taken) l__law_taken w__law_taken k__law_taken).binds (ps := ["row", "many"]) fun _ _ _ _ _ _ us hl => match us, hl with | [_, _], _ => rfl, g__law_taken := PySem.W.mg_of X G a__law_taken,
    a__law_design := f__law_design, d__law_design := _, F__law_design := fun_mk (st := s__law_design) l__law_design w__law_design k__law_design, b__law_design := (fun_mk (st := s__law_design) l__law_design w__law_design k__law_design).binds (ps := ["row"]) fun _ _ _ _ _ _ us hl => match us, hl with | [_], _ => rfl, g__law_design := PySem.W.mg_of X G a__law_design,
    a__law_last := f__law_last, d__law_last := _, F__law_last := fun_mk (st := s__law_last) l__law_last w__law_last k__law_last, b__law_last := (fun_mk (st := s__law_last) l__law_last w__law_last k__law_last).binds (ps := ["core", "place", "kinds", "spot", "name"]) fun _ _ _ _ _ _ us hl => match us, hl with | [_, _, _, _, _], _ => rfl, g__law_last := PySem.W.mg_of X G a__law_last,
    a__law_word := f__law_word, d__law_word := _, F__law_word := fun_mk (st := s__law_word) l__law_word w__law_word k__law_word, b__law_word := (fun_mk (st := s__law_word) l__law_word w__law_word k__law_word).binds (ps := ["run", "c", "place", "name"]) fun _ _ _ _ _ _ us hl => match us, hl with | [_, _, _, _], _ => rfl, g__law_word := PySem.W.mg_of X G a__law_word,
    a__law_written := f__law_written, d__law_written := _, F__law_written := fun_mk (st := s__law_written) l__law_written w__law_written k__law_written, b__law_written := (fun_mk (st := s__law_written) l__law_written w__law_written k__law_written).binds (ps := ["run", "c", "place"]) fun _ _ _ _ _ _ us hl => match us, hl with | [_, _, _], _ => rfl, g__law_written := PySem.W.mg_of X G a__law_written,
    a__law_do := f__law_do, d__law_do := _, F__law_do := fun_mk (st := s__law_do) l__law_do w__law_do k__law_do, b__law_do := (fun_mk (st := s__law_do) l__law_do w__law_do k__law_do).binds (ps := ["run", "event"]) fun _ _ _ _ _ _ us hl => match us, hl with | [_, _], _ => rfl, g__law_do := PySem.W.mg_of X G a__law_do,
    a__law_cell := f__law_cell, d__law_cell := _, F__law_cell := fun_mk (st := s__law_cell) l__law_cell w__law_cell k__law_cell, b__law_cell := (fun_mk (st := s__law_cell) l__law_cell w__law_cell k__law_cell).binds (ps := ["one"]) fun _ _ _ _ _ _ us hl => match us, hl with | [_], _ => rfl, g__law_cell := PySem.W.mg_of X G a__law_cell,
    a__law_letter := f__law_letter, d__law_letter := _, F__law_letter := fun_mk (st := s__law_letter) l__law_letter w__law_letter k__law_letter, b__law_letter := (fun_mk (st := s__law_letter) l__law_letter w__law_letter k__law_letter).binds (ps := ["one"]) fun _ _ _ _ _ _ us hl => match us, hl with | [_], _ => rfl, g__law_letter := PySem.W.mg_of X G a__law_letter,
    a__law_must := f__law_must, d__law_must := _, F__law_must := fun_mk (st := s__law_must) l__law_must w__law_must k__law_must, b__law_must := (fun_mk (st := s__law_must) l__law_must w__law_must k__law_must).binds (ps := ["design", "core", "i", "j"]) fun _ _ _ _ _ _ us hl => match us, hl with | [_, _, _, _], _ => rfl, g__law_must := PySem.W.mg_of X G a__law_must,
    a__law_can := f__law_can, d__law_can := _, F__law_can := fun_mk (st := s__law_can) l__law_can w__law_can k__law_can, b__law_can := (fun_mk (st := s__law_can) l__law_can w__law_can k__law_can).binds (ps := ["run", "c", "place"]) fun _ _ _ _ _ _ us hl => match us, hl with | [_, _, _], _ => rfl, g__law_can := PySem.W.mg_of X G a__law_can,
    a__law_events := f__law_events, d__law_events := _, F__law_events := fun_mk (st := s__law_events) l__law_events w__law_events k__law_events, b__law_events := (fun_mk (st := s__law_events) l__law_events w__law_events k__law_events).binds (ps := ["run"]) fun _ _ _ _ _ _ us hl => match us, hl with | [_], _ => rfl, g__law_events := PySem.W.mg_of X G a__law_events,
    a__law_outcome := f__law_outcome, d__law_outcome := _, F__law_outcome := fun_mk (st := s__law_outcome) l__law_outcome w__law_outcome k__law_outcome, b__law_outcome := (fun_mk (st := s__law_outcome) l__law_outcome w__law_outcome k__law_outcome).binds (ps := ["run"]) fun _ _ _ _ _ _ us hl => match us, hl with | [_], _ => rfl, g__law_outcome := PySem.W.mg_of X G a__law_outcome,
    a__law_over := f__law_over, d__law_over := _, F__law_over := fun_mk (st := s__law_over) l__law_over w__law_over k__law_over, b__law_over := (fun_mk (st := s__law_over) l__law_over w__law_over k__law_over).binds (ps := ["run"]) fun _ _ _ _ _ _ us hl => match us, hl with | [_], _ => rfl, g__law_over := PySem.W.mg_of X G a__law_over,
    a__law_pick := f__law_pick, d__law_pick := _, F__law_pick := fun_mk (st := s__law_pick) l__law_pick w__law_pick k__law_pick, b__law_pick := (fun_mk (st := s__law_pick) l__law_pick w__law_pick k__law_pick).binds (ps := ["row", "kinds"]) fun _ _ _ _ _ _ us hl => match us, hl with | [_, _], _ => rfl, g__law_pick := PySem.W.mg_of X G a__law_pick,
    a__law_instruction := f__law_instruction, d__law_instruction := _, F__law_instruction := fun_mk (st := s__law_instruction) l__law_instruction w__law_instruction k__law_instruction, b__law_instruction := (fun_mk (st := s__law_instruction) l__law_instruction w__law_instruction k__law_instruction).binds (ps := ["row"]) fun _ _ _ _ _ _ us hl => match us, hl with | [_], _ => rfl, g__law_instruction := PySem.W.mg_of X G a__law_instruction,
    a__law_program := f__law_program, d__law_program := _, F__law_program := fun_mk (st := s__law_program) l__law_program w__law_program k__law_program, b__law_program := (fun_mk (st := s__law_program) l__law_program w__law_program k__law_program).binds (ps := ["row", "most"]) fun _ _ _ _ _ _ us hl => match us, hl with | [_, _], _ => rfl, g__law_program := PySem.W.mg_of X G a__law_program,
    a_is_design := f_is_design, d_is_design := _, F_is_design := fun_mk (st := s_is_design) l_is_design w_is_design k_is_design, b_is_design := (fun_mk (st := s_is_design) l_is_design w_is_design k_is_design).binds (ps := ["value"]) fun _ _ _ _ _ _ us hl => match us, hl with | [_], _ => rfl, g_is_design := PySem.W.mg_of X G a_is_design,
    a_check_design := f_check_design, d_check_design := _, F_check_design := fun_mk (st := s_check_design) l_check_design w_check_design k_check_design, b_check_design := (fun_mk (st := s_check_design) l_check_design w_check_design k_check_design).binds (ps := ["value"]) fun _ _ _ _ _ _ us hl => match us, hl with | [_], _ => rfl, g_check_design := PySem.W.mg_of X G a_check_design,
    a_is_number := f_is_number, d_is_number := _, F_is_number := fun_mk (st := s_is_number) l_is_number w_is_number k_is_number, b_is_number := (fun_mk (st := s_is_number) l_is_number w_is_number k_is_number).binds (ps := ["value", "greatest"]) fun _ _ _ _ _ _ us hl => match us, hl with | [_, _], _ => rfl, g_is_number := PySem.W.mg_of X G a_is_number,
    a_is_instruction := f_is_instruction, d_is_instruction := _, F_is_instruction := fun_mk (st := s_is_instruction) l_is_instruction w_is_instruction k_is_instruction, b_is_instruction := (fun_mk (st := s_is_instruction) l_is_instruction w_is_instruction k_is_instruction).binds (ps := ["value"]) fun _ _ _ _ _ _ us hl => match us, hl with | [_], _ => rfl, g_is_instruction := PySem.W.mg_of X G a_is_instruction,
    a_is_core := f_is_core, d_is_core := _, F_is_core := fun_mk (st := s_is_core) l_is_core w_is_core k_is_core, b_is_core := (fun_mk (st := s_is_core) l_is_core w_is_core k_is_core).binds (ps := ["value"]) fun _ _ _ _ _ _ us hl => match us, hl with | [_], _ => rfl, g_is_core := PySem.W.mg_of X G a_is_core,
    a_check_program := f_check_program, d_check_program := _, F_check_program := fun_mk (st := s_check_program) l_check_program w_check_program k_check_program, b_check_program := (fun_mk (st := s_check_program) l_check_program w_check_program k_check_program).binds (ps := ["value"]) fun _ _ _ _ _ _ us hl => match us, hl with | [_], _ => rfl, g_check_program := PySem.W.mg_of X G a_check_program,
    a_is_reading := f_is_reading, d_is_reading := _, F_is_reading := fun_mk (st := s_is_reading) l_is_reading w_is_reading k_is_reading, b_is_reading := (fun_mk (st := s_is_reading) l_is_reading w_is_reading k_is_reading).binds (ps := ["instruction"]) fun _ _ _ _ _ _ us hl => match us, hl with | [_], _ => rfl, g_is_reading := PySem.W.mg_of X G a_is_reading,
    a_is_writing := f_is_writing, d_is_writing := _, F_is_writing := fun_mk (st := s_is_writing) l_is_writing w_is_writing k_is_writing, b_is_writing := (fun_mk (st := s_is_writing) l_is_writing w_is_writing k_is_writing).binds (ps := ["instruction"]) fun _ _ _ _ _ _ us hl => match us, hl with | [_], _ => rfl, g_is_writing := PySem.W.mg_of X G a_is_writing,
    a_cell_of := f_cell_of, d_cell_of := _, F_cell_of := fun_mk (st := s_cell_of) l_cell_of w_cell_of k_cell_of, b_cell_of := (fun_mk (st := s_cell_of) l_cell_of w_cell_of k_cell_of).binds (ps := ["instruction"]) fun _ _ _ _ _ _ us hl => match us, hl with | [_], _ => rfl, g_cell_of := PySem.W.mg_of X G a_cell_of,
    a_is_kept_behind_guard := f_is_kept_behind_guard, d_is_kept_behind_guard := _, F_is_kept_behind_guard := fun_mk (st := s_is_kept_behind_guard) l_is_kept_behind_guard w_is_kept_behind_guard k_is_kept_behind_guard, b_is_kept_behind_guard := (fun_mk (st := s_is_kept_behind_guard) l_is_kept_behind_guard w_is_kept_behind_guard k_is_kept_behind_guard).binds (ps := ["design", "later"]) fun _ _ _ _ _ _ us hl => match us, hl with | [_, _], _ => rfl, g_is_kept_behind_guard := PySem.W.mg_of X G a_is_kept_behind_guard,
    a_is_kept_on_cell := f_is_kept_on_cell, d_is_kept_on_cell := _, F_is_kept_on_cell := fun_mk (st := s_is_kept_on_cell) l_is_kept_on_cell w_is_kept_on_cell k_is_kept_on_cell, b_is_kept_on_cell := (fun_mk (st := s_is_kept_on_cell) l_is_kept_on_cell w_is_kept_on_cell k_is_kept_on_cell).binds (ps := ["design", "earlier", "later"]) fun _ _ _ _ _ _ us hl => match us, hl with | [_, _, _], _ => rfl, g_is_kept_on_cell := PySem.W.mg_of X G a_is_kept_on_cell,
    a_kind_of := f_kind_of, d_kind_of := _, F_kind_of := fun_mk (st := s_kind_of) l_kind_of w_kind_of k_kind_of, b_kind_of := (fun_mk (st := s_kind_of) l_kind_of w_kind_of k_kind_of).binds (ps := ["instruction"]) fun _ _ _ _ _ _ us hl => match us, hl with | [_], _ => rfl, g_kind_of := PySem.W.mg_of X G a_kind_of,
    a_last_read := f_last_read, d_last_read := _, F_last_read := fun_mk (st := s_last_read) l_last_read w_last_read k_last_read, b_last_read := (fun_mk (st := s_last_read) l_last_read w_last_read k_last_read).binds (ps := ["core", "number", "place"]) fun _ _ _ _ _ _ us hl => match us, hl with | [_, _, _], _ => rfl, g_last_read := PySem.W.mg_of X G a_last_read,
    a_used_by := f_used_by, d_used_by := _, F_used_by := fun_mk (st := s_used_by) l_used_by w_used_by k_used_by, b_used_by := (fun_mk (st := s_used_by) l_used_by w_used_by k_used_by).binds (ps := ["instruction"]) fun _ _ _ _ _ _ us hl => match us, hl with | [_], _ => rfl, g_used_by := PySem.W.mg_of X G a_used_by,
    a_is_kept := f_is_kept, d_is_kept := _, F_is_kept := fun_mk (st := s_is_kept) l_is_kept w_is_kept k_is_kept, b_is_kept := (fun_mk (st := s_is_kept) l_is_kept w_is_kept k_is_kept).binds (ps := ["design", "core", "first", "second"]) fun _ _ _ _ _ _ us hl => match us, hl with | [_, _, _, _], _ => rfl, g_is_kept := PySem.W.mg_of X G a_is_kept,
    a_last_writing := f_last_writing, d_last_writing := _, F_last_writing := fun_mk (st := s_last_writing) l_last_writing w_last_writing k_last_writing, b_last_writing := (fun_mk (st := s_last_writing) l_last_writing w_last_writing k_last_writing).binds (ps := ["core", "cell", "place"]) fun _ _ _ _ _ _ us hl => match us, hl with | [_, _, _], _ => rfl, g_last_writing := PySem.W.mg_of X G a_last_writing,
    a_waits_for_copied := f_waits_for_copied, d_waits_for_copied := _, F_waits_for_copied := fun_mk (st := s_waits_for_copied) l_waits_for_copied w_waits_for_copied k_waits_for_copied, b_waits_for_copied := (fun_mk (st := s_waits_for_copied) l_waits_for_copied w_waits_for_copied k_waits_for_copied).binds (ps := ["design", "core", "first", "second"]) fun _ _ _ _ _ _ us hl => match us, hl with | [_, _, _, _], _ => rfl, g_waits_for_copied := PySem.W.mg_of X G a_waits_for_copied,
    a_must_wait := f_must_wait, d_must_wait := _, F_must_wait := fun_mk (st := s_must_wait) l_must_wait w_must_wait k_must_wait, b_must_wait := (fun_mk (st := s_must_wait) l_must_wait w_must_wait k_must_wait).binds (ps := ["design", "core", "first", "second"]) fun _ _ _ _ _ _ us hl => match us, hl with | [_, _, _, _], _ => rfl, g_must_wait := PySem.W.mg_of X G a_must_wait,
    a_source_of := f_source_of, d_source_of := _, F_source_of := fun_mk (st := s_source_of) l_source_of w_source_of k_source_of, b_source_of := (fun_mk (st := s_source_of) l_source_of w_source_of k_source_of).binds (ps := ["core", "place"]) fun _ _ _ _ _ _ us hl => match us, hl with | [_, _], _ => rfl, g_source_of := PySem.W.mg_of X G a_source_of,
    a_Step_init := f_Step_init, d_Step_init := _, F_Step_init := fun_mk (st := s_Step_init) l_Step_init w_Step_init k_Step_init, b_Step_init := (fun_mk (st := s_Step_init) l_Step_init w_Step_init k_Step_init).binds (ps := ["self", "number", "core", "place", "start", "waits_for"]) fun _ _ _ _ _ _ us hl => match us, hl with | [_, _, _, _, _, _], _ => rfl,
    a_make_steps := f_make_steps, d_make_steps := _, F_make_steps := fun_mk (st := s_make_steps) l_make_steps w_make_steps k_make_steps, b_make_steps := (fun_mk (st := s_make_steps) l_make_steps w_make_steps k_make_steps).binds (ps := ["program", "waits_for"]) fun _ _ _ _ _ _ us hl => match us, hl with | [_, _], _ => rfl, g_make_steps := PySem.W.mg_of X G a_make_steps,
    a_steps_on := f_steps_on, d_steps_on := _, F_steps_on := fun_mk (st := s_steps_on) l_steps_on w_steps_on k_steps_on, b_steps_on := (fun_mk (st := s_steps_on) l_steps_on w_steps_on k_steps_on).binds (ps := ["design", "program"]) fun _ _ _ _ _ _ us hl => match us, hl with | [_, _], _ => rfl, g_steps_on := PySem.W.mg_of X G a_steps_on,
    a_checked_steps := f_checked_steps, d_checked_steps := _, F_checked_steps := fun_mk (st := s_checked_steps) l_checked_steps w_checked_steps k_checked_steps, b_checked_steps := (fun_mk (st := s_checked_steps) l_checked_steps w_checked_steps k_checked_steps).binds (ps := ["design", "program"]) fun _ _ _ _ _ _ us hl => match us, hl with | [_, _], _ => rfl, g_checked_steps := PySem.W.mg_of X G a_checked_steps,
    a_first_state := f_first_state, d_first_state := _, F_first_state := fun_mk (st := s_first_state) l_first_state w_first_state k_first_state, b_first_state := (fun_mk (st := s_first_state) l_first_state w_first_state k_first_state).binds (ps := ["steps"]) fun _ _ _ _ _ _ us hl => match us, hl with | [_], _ => rfl, g_first_state := PySem.W.mg_of X G a_first_state,
    a_number_of := f_number_of, d_number_of := _, F_number_of := fun_mk (st := s_number_of) l_number_of w_number_of k_number_of, b_number_of := (fun_mk (st := s_number_of) l_number_of w_number_of k_number_of).binds (ps := ["steps", "event"]) fun _ _ _ _ _ _ us hl => match us, hl with | [_, _], _ => rfl, g_number_of := PySem.W.mg_of X G a_number_of,
    a_word_used := f_word_used, d_word_used := _, F_word_used := fun_mk (st := s_word_used) l_word_used w_word_used k_word_used, b_word_used := (fun_mk (st := s_word_used) l_word_used w_word_used k_word_used).binds (ps := ["step", "words"]) fun _ _ _ _ _ _ us hl => match us, hl with | [_, _], _ => rfl, g_word_used := PySem.W.mg_of X G a_word_used,
    a_ends_core := f_ends_core, d_ends_core := _, F_ends_core := fun_mk (st := s_ends_core) l_ends_core w_ends_core k_ends_core, b_ends_core := (fun_mk (st := s_ends_core) l_ends_core w_ends_core k_ends_core).binds (ps := ["step", "words"]) fun _ _ _ _ _ _ us hl => match us, hl with | [_, _], _ => rfl, g_ends_core := PySem.W.mg_of X G a_ends_core,
    a_word_written := f_word_written, d_word_written := _, F_word_written := fun_mk (st := s_word_written) l_word_written w_word_written k_word_written, b_word_written := (fun_mk (st := s_word_written) l_word_written w_word_written k_word_written).binds (ps := ["step", "words"]) fun _ _ _ _ _ _ us hl => match us, hl with | [_, _], _ => rfl, g_word_written := PySem.W.mg_of X G a_word_written,
    a_word_taken := f_word_taken, d_word_taken := _, F_word_taken := fun_mk (st := s_word_taken) l_word_taken w_word_taken k_word_taken, b_word_taken := (fun_mk (st := s_word_taken) l_word_taken w_word_taken k_word_taken).binds (ps := ["steps", "state", "step"]) fun _ _ _ _ _ _ us hl => match us, hl with | [_, _, _], _ => rfl, g_word_taken := PySem.W.mg_of X G a_word_taken,
    a_state_behind := f_state_behind, d_state_behind := _, F_state_behind := fun_mk (st := s_state_behind) l_state_behind w_state_behind k_state_behind, b_state_behind := (fun_mk (st := s_state_behind) l_state_behind w_state_behind k_state_behind).binds (ps := ["steps", "state", "at"]) fun _ _ _ _ _ _ us hl => match us, hl with | [_, _, _], _ => rfl, g_state_behind := PySem.W.mg_of X G a_state_behind,
    a_can_come := f_can_come, d_can_come := _, F_can_come := fun_mk (st := s_can_come) l_can_come w_can_come k_can_come, b_can_come := (fun_mk (st := s_can_come) l_can_come w_can_come k_can_come).binds (ps := ["step", "words"]) fun _ _ _ _ _ _ us hl => match us, hl with | [_, _], _ => rfl, g_can_come := PySem.W.mg_of X G a_can_come,
    a_steps_now := f_steps_now, d_steps_now := _, F_steps_now := fun_mk (st := s_steps_now) l_steps_now w_steps_now k_steps_now, b_steps_now := (fun_mk (st := s_steps_now) l_steps_now w_steps_now k_steps_now).binds (ps := ["steps", "state"]) fun _ _ _ _ _ _ us hl => match us, hl with | [_, _], _ => rfl, g_steps_now := PySem.W.mg_of X G a_steps_now,
    a_state_behind_row := f_state_behind_row, d_state_behind_row := _, F_state_behind_row := fun_mk (st := s_state_behind_row) l_state_behind_row w_state_behind_row k_state_behind_row, b_state_behind_row := (fun_mk (st := s_state_behind_row) l_state_behind_row w_state_behind_row k_state_behind_row).binds (ps := ["steps", "row"]) fun _ _ _ _ _ _ us hl => match us, hl with | [_, _], _ => rfl, g_state_behind_row := PySem.W.mg_of X G a_state_behind_row,
    a_events_behind := f_events_behind, d_events_behind := _, F_events_behind := fun_mk (st := s_events_behind) l_events_behind w_events_behind k_events_behind, b_events_behind := (fun_mk (st := s_events_behind) l_events_behind w_events_behind k_events_behind).binds (ps := ["design", "program", "row"]) fun _ _ _ _ _ _ us hl => match us, hl with | [_, _, _], _ => rfl, g_events_behind := PySem.W.mg_of X G a_events_behind,
    a_is_over := f_is_over, d_is_over := _, F_is_over := fun_mk (st := s_is_over) l_is_over w_is_over k_is_over, b_is_over := (fun_mk (st := s_is_over) l_is_over w_is_over k_is_over).binds (ps := ["state"]) fun _ _ _ _ _ _ us hl => match us, hl with | [_], _ => rfl, g_is_over := PySem.W.mg_of X G a_is_over,
    a_has_ended := f_has_ended, d_has_ended := _, F_has_ended := fun_mk (st := s_has_ended) l_has_ended w_has_ended k_has_ended, b_has_ended := (fun_mk (st := s_has_ended) l_has_ended w_has_ended k_has_ended).binds (ps := ["design", "program", "row"]) fun _ _ _ _ _ _ us hl => match us, hl with | [_, _, _], _ => rfl, g_has_ended := PySem.W.mg_of X G a_has_ended,
    a_outcome_of := f_outcome_of, d_outcome_of := _, F_outcome_of := fun_mk (st := s_outcome_of) l_outcome_of w_outcome_of k_outcome_of, b_outcome_of := (fun_mk (st := s_outcome_of) l_outcome_of w_outcome_of k_outcome_of).binds (ps := ["steps", "program", "state"]) fun _ _ _ _ _ _ us hl => match us, hl with | [_, _, _], _ => rfl, g_outcome_of := PySem.W.mg_of X G a_outcome_of,
    a_told_by := f_told_by, d_told_by := _, F_told_by := fun_mk (st := s_told_by) l_told_by w_told_by k_told_by, b_told_by := (fun_mk (st := s_told_by) l_told_by w_told_by k_told_by).binds (ps := ["design", "program", "row"]) fun _ _ _ _ _ _ us hl => match us, hl with | [_, _, _], _ => rfl, g_told_by := PySem.W.mg_of X G a_told_by,
    a__law_not_made := f__law_not_made, d__law_not_made := _, F__law_not_made := fun_mk (st := s__law_not_made) l__law_not_made w__law_not_made k__law_not_made, b__law_not_made := (fun_mk (st := s__law_not_made) l__law_not_made w__law_not_made k__law_not_made).binds (ps := ["work"]) fun _ _ _ _ _ _ us hl => match us, hl with | [_], _ => rfl, g__law_not_made := PySem.W.mg_of X G a__law_not_made,
    a_law := f_law, d_law := _, F_law := fun_mk (st := s_law) l_law w_law k_law, b_law := (fun_mk (st := s_law) l_law w_law k_law).binds (ps := ["script"]) fun _ _ _ _ _ _ us hl => match us, hl with | [_], _ => rfl, g_law := PySem.W.mg_of X G a_law,
    a_Step := f_Step, g_Step := PySem.W.mg_of X G a_Step, i_Step := ⟨a_Step, ⟨gA_Step, gB_Step, gC_Step, gD_Step⟩⟩, mk_Step := ⟨mA_Step, mB_Step, mC_Step, mD_Step⟩, na_Step_behind := na_Step_behind, na_Step_event := na_Step_event, na_Step_instruction := na_Step_instruction, na_Step_source := na_Step_source, na_Step_waits := na_Step_waits,
    n_all := PySem.W.mg_none_of X G z_all,
    n_bool := PySem.W.mg_none_of X G z_bool,
    n_enumerate := PySem.W.mg_none_of X G z_enumerate,
    n_int := PySem.W.mg_none_of X G z_int,
    n_isinstance := PySem.W.mg_none_of X G z_isinstance,
    n_len := PySem.W.mg_none_of X G z_len,
    n_list := PySem.W.mg_none_of X G z_list,
    n_min := PySem.W.mg_none_of X G z_min,
    n_range := PySem.W.mg_none_of X G z_range,
    n_sorted := PySem.W.mg_none_of X G z_sorted,
    n_str := PySem.W.mg_none_of X G z_str,
    n_tuple := PySem.W.mg_none_of X G z_tuple,
    n_zip := PySem.W.mg_none_of X G z_zip,
    a_WORDS := f_WORDS, c_WORDS := ⟨PySem.W.mg_of X G a_WORDS, r_WORDS⟩,
    a_FIRST_CELLS := f_FIRST_CELLS, c_FIRST_CELLS := ⟨PySem.W.mg_of X G a_FIRST_CELLS, r_FIRST_CELLS⟩,
    u_MOST_CORES := u_MOST_CORES, c_MOST_CORES := ⟨PySem.W.mg_of X G a_MOST_CORES, r_MOST_CORES⟩,
    u_MOST_IN_CORE := u_MOST_IN_CORE, c_MOST_IN_CORE := ⟨PySem.W.mg_of X G a_MOST_IN_CORE, r_MOST_IN_CORE⟩,
    u_MOST_IN_ALL := u_MOST_IN_ALL, c_MOST_IN_ALL := ⟨PySem.W.mg_of X G a_MOST_IN_ALL, r_MOST_IN_ALL⟩,
    u_LEFT_OUT := u_LEFT_OUT, c_LEFT_OUT := ⟨PySem.W.mg_of X G a_LEFT_OUT, r_LEFT_OUT⟩,
    a_PairError := f_PairError, g_PairError := PySem.W.mg_of X G a_PairError,
    a_NotMade := f_NotMade, x_NotMade := ⟨PySem.W.mg_of X G a_NotMade, x_NotMade, k_NotMade, b_NotMade, t_NotMade, ⟨ea_NotMade, eb_NotMade, b_NotMade, ec_NotMade, ed_NotMade, eg, eh, ee_NotMade⟩, u_NotMade⟩,
    i_made_made := i_made_made,
    a_GREATEST := f_GREATEST, e_GREATEST := e_GREATEST, z_GREATEST := y_GREATEST, c_GREATEST := PySem.W.mg_of X G a_GREATEST, k_GREATEST := ⟨l_GREATEST, i_GREATEST, j_GREATEST⟩, t_GREATEST := ktab_of l_GREATEST t_GREATEST }
  have hT_law : h.get? (tabAddr K "law") = some { cls := .none, data := .fields #[] } := own "law" (by decide) f_law (PySem.W.mg_of X G a_law) cc_law (tabAddr K "law") _ _ _ _ _ _ l_law rfl rfl yl_law y1_law
  have hT_steps_on : h.get? (tabAddr K "steps_on") = some { cls := .none, data := .fields #[] } := own "steps_on" (by decide) f_steps_on (PySem.W.mg_of X G a_steps_on) cc_steps_on (tabAddr K "steps_on") _ _ _ _ _ _ l_steps_on rfl rfl yl_steps_on y1_steps_on
  have nd : tabAddr K "law" ≠ tabAddr K "steps_on" := fun e => by
    rw [e, beq_self_eq_true] at y_nd
    cases y_nd
  have both : ∀ (q : Addr × Addr → Prop), q (cc_law, tabAddr K "law") → q (cc_steps_on, tabAddr K "steps_on") → ∀ p ∈ [(cc_law, tabAddr K "law"), (cc_steps_on, tabAddr K "steps_on")], q p := fun q h1 h2 p hp => by
    rcases List.mem_cons.mp hp with e | hp
    · rw [e]; exact h1
    · rw [List.mem_singleton.mp hp]; exact h2
  refine ⟨T.d_law, [(cc_law, tabAddr K "law"), (cc_steps_on, tabAddr K "steps_on")], spL P K w m_law, both _ hT_law hT_steps_on, both _ yn_law yn_steps_on, both _ (PySem.W.codeHd_of_K X yh_law) (PySem.W.codeHd_of_K X yh_steps_on), fun s v => .of_eq rfl, fun H a ns hl _ hH hS => spL_ofT (tabs := [("law", lamQ), ("steps_on", (lamQn "steps_on"))]) ?_ law_go hl (fun p hp => ?_) hS, fun base _ _ hB => ?_⟩
  · show [tabAddr K "law", tabAddr K "steps_on"].Nodup
    exact List.nodup_cons.mpr ⟨fun z => nd (List.mem_singleton.mp z), List.nodup_cons.mpr ⟨List.not_mem_nil, List.nodup_nil⟩⟩
  · rcases List.mem_cons.mp hp with e | hp
    · rw [e]; exact hH (cc_law, tabAddr K "law") (List.mem_cons_self ..)
    · rw [List.mem_singleton.mp hp]; exact hH (cc_steps_on, tabAddr K "steps_on") (List.mem_cons_of_mem _ (List.mem_singleton.mpr rfl))
  · have L1 : LawT K mg base "law" s_law T.a_law T.d_law := ⟨cc_law, ⟨_, _, _, _, _, _, _, _, rfl, l_law, w_law⟩, hB (cc_law, tabAddr K "law") (List.mem_cons_self ..)⟩
    have L2 : LawT K mg base "steps_on" s_steps_on T.a_steps_on T.d_steps_on := ⟨cc_steps_on, ⟨_, _, _, _, _, _, _, _, rfl, l_steps_on, w_steps_on⟩, hB (cc_steps_on, tabAddr K "steps_on") (List.mem_cons_of_mem _ (List.mem_singleton.mpr rfl))⟩
    exact FnD.law (ok_law (base := base) T L1 L2)
end K03
open PySem PySem.W PyProof.Rows
set_option maxHeartbeats 0 in
theorem PySem.Challenge.cw_pairskept_k03_whole_rows_holds : PySem.Challenge.rw_pairskept_k03_whole_rows.Holds := by
  w_on; o_law; k_head; (case hw => w_witness2)
  k_fill
  refine DL.walk_ofTabs (l := PySem.Challenge.rw_pairskept_k03_whole_rows) (n := 63) (k := 15) (x := "script") (CX := fun w => L2.CX PySem.Challenge.rw_pairskept_k03_whole_rows.prog w) ["law", "steps_on"] rfl (by decide) rfl ⟨rfl, by decide, by decide⟩ (by first | rfl | decide +kernel) (fun w h Y => PySem.W.km_in_of Y) ?F (fun w H s e s' h => DL.cx_no h)
  case F =>
    intro w mg fa h Y KX G hmg own
    refine' K03.all_mk KX G hmg ?a__law_alike ?l__law_alike ?w__law_alike ?k__law_alike ?a__law_begin ?l__law_begin ?w__law_begin ?k__law_begin ?a__law_taken ?l__law_taken ?w__law_taken ?k__law_taken ?a__law_design ?l__law_design ?w__law_design ?k__law_design ?a__law_last ?l__law_last ?w__law_last ?k__law_last ?a__law_word ?l__law_word ?w__law_word ?k__law_word ?a__law_written ?l__law_written ?w__law_written ?k__law_written ?a__law_do ?l__law_do ?w__law_do ?k__law_do ?a__law_cell ?l__law_cell ?w__law_cell ?k__law_cell ?a__law_letter ?l__law_letter ?w__law_letter ?k__law_letter ?a__law_must ?l__law_must ?w__law_must ?k__law_must ?a__law_can ?l__law_can ?w__law_can ?k__law_can ?a__law_events ?l__law_events ?w__law_events ?k__law_events ?a__law_outcome ?l__law_outcome ?w__law_outcome ?k__law_outcome ?a__law_over ?l__law_over ?w__law_over ?k__law_over ?a__law_pick ?l__law_pick ?w__law_pick ?k__law_pick ?a__law_instruction ?l__law_instruction ?w__law_instruction ?k__law_instruction ?a__law_program ?l__law_program ?w__law_program ?k__law_program ?a_is_design ?l_is_design ?w_is_design ?k_is_design ?a_check_design ?l_check_design ?w_check_design ?k_check_design ?a_is_number ?l_is_number ?w_is_number ?k_is_number ?a_is_instruction ?l_is_instruction ?w_is_instruction ?k_is_instruction ?a_is_core ?l_is_core ?w_is_core ?k_is_core ?a_check_program ?l_check_program ?w_check_program ?k_check_program ?a_is_reading ?l_is_reading ?w_is_reading ?k_is_reading ?a_is_writing ?l_is_writing ?w_is_writing ?k_is_writing ?a_cell_of ?l_cell_of ?w_cell_of ?k_cell_of ?a_is_kept_behind_guard ?l_is_kept_behind_guard ?w_is_kept_behind_guard ?k_is_kept_behind_guard ?a_is_kept_on_cell ?l_is_kept_on_cell ?w_is_kept_on_cell ?k_is_kept_on_cell ?a_kind_of ?l_kind_of ?w_kind_of ?k_kind_of ?a_last_read ?l_last_read ?w_last_read ?k_last_read ?a_used_by ?l_used_by ?w_used_by ?k_used_by ?a_is_kept ?l_is_kept ?w_is_kept ?k_is_kept ?a_last_writing ?l_last_writing ?w_last_writing ?k_last_writing ?a_waits_for_copied ?l_waits_for_copied ?w_waits_for_copied ?k_waits_for_copied ?a_must_wait ?l_must_wait ?w_must_wait ?k_must_wait ?a_source_of ?l_source_of ?w_source_of ?k_source_of ?l_Step_init ?w_Step_init ?k_Step_init ?a_make_steps ?l_make_steps ?w_make_steps ?k_make_steps ?a_steps_on ?l_steps_on ?w_steps_on ?k_steps_on ?a_checked_steps ?l_checked_steps ?w_checked_steps ?k_checked_steps ?a_first_state ?l_first_state ?w_first_state ?k_first_state ?a_number_of ?l_number_of ?w_number_of ?k_number_of ?a_word_used ?l_word_used ?w_word_used ?k_word_used ?a_ends_core ?l_ends_core ?w_ends_core ?k_ends_core ?a_word_written ?l_word_written ?w_word_written ?k_word_written ?a_word_taken ?l_word_taken ?w_word_taken ?k_word_taken ?a_state_behind ?l_state_behind ?w_state_behind ?k_state_behind ?a_can_come ?l_can_come ?w_can_come ?k_can_come ?a_steps_now ?l_steps_now ?w_steps_now ?k_steps_now ?a_state_behind_row ?l_state_behind_row ?w_state_behind_row ?k_state_behind_row ?a_events_behind ?l_events_behind ?w_events_behind ?k_events_behind ?a_is_over ?l_is_over ?w_is_over ?k_is_over ?a_has_ended ?l_has_ended ?w_has_ended ?k_has_ended ?a_outcome_of ?l_outcome_of ?w_outcome_of ?k_outcome_of ?a_told_by ?l_told_by ?w_told_by ?k_told_by ?a__law_not_made ?l__law_not_made ?w__law_not_made ?k__law_not_made ?a_law ?l_law ?w_law ?k_law ?a_Step ?gA_Step ?gB_Step ?gC_Step ?gD_Step ?mA_Step ?mB_Step ?mC_Step ?mD_Step ?na_Step_behind ?na_Step_event ?na_Step_instruction ?na_Step_source ?na_Step_waits ?z_all ?z_bool ?z_enumerate ?z_int ?z_isinstance ?z_len ?z_list ?z_min ?z_range ?z_sorted ?z_str ?z_tuple ?z_zip ?a_WORDS ?r_WORDS ?a_FIRST_CELLS ?r_FIRST_CELLS ?a_GREATEST ?l_GREATEST ?i_GREATEST ?j_GREATEST ?t_GREATEST ?a_MOST_CORES ?r_MOST_CORES ?a_MOST_IN_CORE ?r_MOST_IN_CORE ?a_MOST_IN_ALL ?r_MOST_IN_ALL ?a_LEFT_OUT ?r_LEFT_OUT ?a_PairError ?a_NotMade ?x_NotMade ?k_NotMade ?b_NotMade ?t_NotMade ?u_NotMade ?ea_NotMade ?eb_NotMade ?ec_NotMade ?ed_NotMade ?ee_NotMade ?eg ?eh ?i_made_made ?yc_law ?yl_law ?y1_law ?yn_law ?yh_law ?yc_steps_on ?yl_steps_on ?y1_steps_on ?yn_steps_on ?yh_steps_on ?y_nd own
    (case a_Step => first | k_is | kernel_rfl)
    (case gA_Step => first | k_is | kernel_rfl)
    (case gB_Step => first | k_is | kernel_rfl)
    (case gC_Step => first | k_is | kernel_rfl)
    (case gD_Step => first | k_is | kernel_rfl)
    (case mA_Step => first | k_is | kernel_rfl)
    (case mB_Step => first | k_is | kernel_rfl)
    (case mC_Step => first | k_is | kernel_rfl)
    (case mD_Step => first | k_is | kernel_rfl)
    (case na_Step_behind => first | k_is | kernel_rfl)
    (case na_Step_event => first | k_is | kernel_rfl)
    (case na_Step_instruction => first | k_is | kernel_rfl)
    (case na_Step_source => first | k_is | kernel_rfl)
    (case na_Step_waits => first | k_is | kernel_rfl)
    (case a__law_alike => k_is)
    (case l__law_alike => k_is)
    (case w__law_alike => k_is)
    (case k__law_alike => k_is)
    (case a__law_begin => k_is)
    (case l__law_begin => k_is)
    (case w__law_begin => k_is)
    (case k__law_begin => k_is)
    (case a__law_taken => k_is)
    (case l__law_taken => k_is)
    (case w__law_taken => k_is)
    (case k__law_taken => k_is)
    (case a__law_design => k_is)
    (case l__law_design => k_is)
    (case w__law_design => k_is)
    (case k__law_design => k_is)
    (case a__law_last => k_is)
    (case l__law_last => k_is)
    (case w__law_last => k_is)
    (case k__law_last => k_is)
    (case a__law_word => k_is)
    (case l__law_word => k_is)
    (case w__law_word => k_is)
    (case k__law_word => k_is)
    (case a__law_written => k_is)
    (case l__law_written => k_is)
    (case w__law_written => k_is)
    (case k__law_written => k_is)
    (case a__law_do => k_is)
    (case l__law_do => k_is)
    (case w__law_do => k_is)
    (case k__law_do => k_is)
    (case a__law_cell => k_is)
    (case l__law_cell => k_is)
    (case w__law_cell => k_is)
    (case k__law_cell => k_is)
    (case a__law_letter => k_is)
    (case l__law_letter => k_is)
    (case w__law_letter => k_is)
    (case k__law_letter => k_is)
    (case a__law_must => k_is)
    (case l__law_must => k_is)
    (case w__law_must => k_is)
    (case k__law_must => k_is)
    (case a__law_can => k_is)
    (case l__law_can => k_is)
    (case w__law_can => k_is)
    (case k__law_can => k_is)
    (case a__law_events => k_is)
    (case l__law_events => k_is)
    (case w__law_events => k_is)
    (case k__law_events => k_is)
    (case a__law_outcome => k_is)
    (case l__law_outcome => k_is)
    (case w__law_outcome => k_is)
    (case k__law_outcome => k_is)
    (case a__law_over => k_is)
    (case l__law_over => k_is)
    (case w__law_over => k_is)
    (case k__law_over => k_is)
    (case a__law_pick => k_is)
    (case l__law_pick => k_is)
    (case w__law_pick => k_is)
    (case k__law_pick => k_is)
    (case a__law_instruction => k_is)
    (case l__law_instruction => k_is)
    (case w__law_instruction => k_is)
    (case k__law_instruction => k_is)
    (case a__law_program => k_is)
    (case l__law_program => k_is)
    (case w__law_program => k_is)
    (case k__law_program => k_is)
    (case a_is_design => k_is)
    (case l_is_design => k_is)
    (case w_is_design => k_is)
    (case k_is_design => k_is)
    (case a_check_design => k_is)
    (case l_check_design => k_is)
    (case w_check_design => k_is)
    (case k_check_design => k_is)
    (case a_is_number => k_is)
    (case l_is_number => k_is)
    (case w_is_number => k_is)
    (case k_is_number => k_is)
    (case a_is_instruction => k_is)
    (case l_is_instruction => k_is)
    (case w_is_instruction => k_is)
    (case k_is_instruction => k_is)
    (case a_is_core => k_is)
    (case l_is_core => k_is)
    (case w_is_core => k_is)
    (case k_is_core => k_is)
    (case a_check_program => k_is)
    (case l_check_program => k_is)
    (case w_check_program => k_is)
    (case k_check_program => k_is)
    (case a_is_reading => k_is)
    (case l_is_reading => k_is)
    (case w_is_reading => k_is)
    (case k_is_reading => k_is)
    (case a_is_writing => k_is)
    (case l_is_writing => k_is)
    (case w_is_writing => k_is)
    (case k_is_writing => k_is)
    (case a_cell_of => k_is)
    (case l_cell_of => k_is)
    (case w_cell_of => k_is)
    (case k_cell_of => k_is)
    (case a_is_kept_behind_guard => k_is)
    (case l_is_kept_behind_guard => k_is)
    (case w_is_kept_behind_guard => k_is)
    (case k_is_kept_behind_guard => k_is)
    (case a_is_kept_on_cell => k_is)
    (case l_is_kept_on_cell => k_is)
    (case w_is_kept_on_cell => k_is)
    (case k_is_kept_on_cell => k_is)
    (case a_kind_of => k_is)
    (case l_kind_of => k_is)
    (case w_kind_of => k_is)
    (case k_kind_of => k_is)
    (case a_last_read => k_is)
    (case l_last_read => k_is)
    (case w_last_read => k_is)
    (case k_last_read => k_is)
    (case a_used_by => k_is)
    (case l_used_by => k_is)
    (case w_used_by => k_is)
    (case k_used_by => k_is)
    (case a_is_kept => k_is)
    (case l_is_kept => k_is)
    (case w_is_kept => k_is)
    (case k_is_kept => k_is)
    (case a_last_writing => k_is)
    (case l_last_writing => k_is)
    (case w_last_writing => k_is)
    (case k_last_writing => k_is)
    (case a_waits_for_copied => k_is)
    (case l_waits_for_copied => k_is)
    (case w_waits_for_copied => k_is)
    (case k_waits_for_copied => k_is)
    (case a_must_wait => k_is)
    (case l_must_wait => k_is)
    (case w_must_wait => k_is)
    (case k_must_wait => k_is)
    (case a_source_of => k_is)
    (case l_source_of => k_is)
    (case w_source_of => k_is)
    (case k_source_of => k_is)
    (case l_Step_init => k_is)
    (case w_Step_init => k_is)
    (case k_Step_init => k_is)
    (case a_make_steps => k_is)
    (case l_make_steps => k_is)
    (case w_make_steps => k_is)
    (case k_make_steps => k_is)
    (case a_steps_on => k_is)
    (case l_steps_on => k_is)
    (case w_steps_on => k_is)
    (case k_steps_on => k_is)
    (case a_checked_steps => k_is)
    (case l_checked_steps => k_is)
    (case w_checked_steps => k_is)
    (case k_checked_steps => k_is)
    (case a_first_state => k_is)
    (case l_first_state => k_is)
    (case w_first_state => k_is)
    (case k_first_state => k_is)
    (case a_number_of => k_is)
    (case l_number_of => k_is)
    (case w_number_of => k_is)
    (case k_number_of => k_is)
    (case a_word_used => k_is)
    (case l_word_used => k_is)
    (case w_word_used => k_is)
    (case k_word_used => k_is)
    (case a_ends_core => k_is)
    (case l_ends_core => k_is)
    (case w_ends_core => k_is)
    (case k_ends_core => k_is)
    (case a_word_written => k_is)
    (case l_word_written => k_is)
    (case w_word_written => k_is)
    (case k_word_written => k_is)
    (case a_word_taken => k_is)
    (case l_word_taken => k_is)
    (case w_word_taken => k_is)
    (case k_word_taken => k_is)
    (case a_state_behind => k_is)
    (case l_state_behind => k_is)
    (case w_state_behind => k_is)
    (case k_state_behind => k_is)
    (case a_can_come => k_is)
    (case l_can_come => k_is)
    (case w_can_come => k_is)
    (case k_can_come => k_is)
    (case a_steps_now => k_is)
    (case l_steps_now => k_is)
    (case w_steps_now => k_is)
    (case k_steps_now => k_is)
    (case a_state_behind_row => k_is)
    (case l_state_behind_row => k_is)
    (case w_state_behind_row => k_is)
    (case k_state_behind_row => k_is)
    (case a_events_behind => k_is)
    (case l_events_behind => k_is)
    (case w_events_behind => k_is)
    (case k_events_behind => k_is)
    (case a_is_over => k_is)
    (case l_is_over => k_is)
    (case w_is_over => k_is)
    (case k_is_over => k_is)
    (case a_has_ended => k_is)
    (case l_has_ended => k_is)
    (case w_has_ended => k_is)
    (case k_has_ended => k_is)
    (case a_outcome_of => k_is)
    (case l_outcome_of => k_is)
    (case w_outcome_of => k_is)
    (case k_outcome_of => k_is)
    (case a_told_by => k_is)
    (case l_told_by => k_is)
    (case w_told_by => k_is)
    (case k_told_by => k_is)
    (case a__law_not_made => k_is)
    (case l__law_not_made => k_is)
    (case w__law_not_made => k_is)
    (case k__law_not_made => k_is)
    (case a_law => k_is)
    (case l_law => k_is)
    (case w_law => k_is)
    (case k_law => k_is)
    (case z_all => k_is)
    (case z_bool => k_is)
    (case z_enumerate => k_is)
    (case z_int => k_is)
    (case z_isinstance => k_is)
    (case z_len => k_is)
    (case z_list => k_is)
    (case z_min => k_is)
    (case z_range => k_is)
    (case z_sorted => k_is)
    (case z_str => k_is)
    (case z_tuple => k_is)
    (case z_zip => k_is)
    (case a_WORDS => k_is)
    (case r_WORDS => exact (DL.rep_ktup (xs := [.str "gr", .str "gw", .str "own", .str "rr", .str "rw", .str "ss", .str "wr", .str "ww"]) (by k_is) (.cons ⟨_, rfl⟩ (.cons ⟨_, rfl⟩ (.cons ⟨_, rfl⟩ (.cons ⟨_, rfl⟩ (.cons ⟨_, rfl⟩ (.cons ⟨_, rfl⟩ (.cons ⟨_, rfl⟩ (.cons ⟨_, rfl⟩ (.nil))))))))) (fun _ _ _ _ => (.cons (.str _) (.cons (.str _) (.cons (.str _) (.cons (.str _) (.cons (.str _) (.cons (.str _) (.cons (.str _) (.cons (.str _) .nil))))))))) (by decide)))
    (case a_FIRST_CELLS => k_is)
    (case r_FIRST_CELLS => exact (DL.rep_ktup (xs := [.int 0, .int 0, .int 0]) (by k_is) (.cons ⟨_, rfl⟩ (.cons ⟨_, rfl⟩ (.cons ⟨_, rfl⟩ (.nil)))) (fun _ _ _ _ => (.cons (.int _) (.cons (.int _) (.cons (.int _) .nil)))) (by decide)))
    (case a_GREATEST => k_is)
    (case l_GREATEST => k_is)
    (case i_GREATEST => exact ⟨⟨_, _, rfl, rfl⟩, ⟨_, _, rfl, rfl⟩, ⟨_, _, rfl, rfl⟩, ⟨_, _, rfl, rfl⟩, ⟨_, _, rfl, rfl⟩, trivial⟩)
    (case j_GREATEST => rfl)
    (case t_GREATEST => exact (.cons (v := .ref _) rfl (DL.rep_ktup (xs := [.int 1, .int 2]) (by k_is) (.cons ⟨_, rfl⟩ (.cons ⟨_, rfl⟩ (.nil))) (fun _ _ _ _ => (.cons (.int _) (.cons (.int _) .nil))) (by decide)) (.cons (v := .ref _) rfl (DL.rep_ktup (xs := [.int 2, .int 9]) (by k_is) (.cons ⟨_, rfl⟩ (.cons ⟨_, rfl⟩ (.nil))) (fun _ _ _ _ => (.cons (.int _) (.cons (.int _) .nil))) (by decide)) (.cons (v := .ref _) rfl (DL.rep_ktup (xs := [.int 2, .int 1]) (by k_is) (.cons ⟨_, rfl⟩ (.cons ⟨_, rfl⟩ (.nil))) (fun _ _ _ _ => (.cons (.int _) (.cons (.int _) .nil))) (by decide)) (.cons (v := .ref _) rfl (DL.rep_ktup (xs := []) (by k_is) (.nil) (fun _ _ _ _ => .nil) (by decide)) (.cons (v := .ref _) rfl (DL.rep_ktup (xs := [.int 1, .int 9]) (by k_is) (.cons ⟨_, rfl⟩ (.cons ⟨_, rfl⟩ (.nil))) (fun _ _ _ _ => (.cons (.int _) (.cons (.int _) .nil))) (by decide)) .nil))))))
    (case a_MOST_CORES => k_is)
    (case r_MOST_CORES => exact ⟨_, rfl⟩)
    (case a_MOST_IN_CORE => k_is)
    (case r_MOST_IN_CORE => exact ⟨_, rfl⟩)
    (case a_MOST_IN_ALL => k_is)
    (case r_MOST_IN_ALL => exact ⟨_, rfl⟩)
    (case a_LEFT_OUT => k_is)
    (case r_LEFT_OUT => exact ⟨_, rfl⟩)
    (case a_PairError => k_is)
    (case a_NotMade => k_is)
    (case x_NotMade => first | k_exc | kernel_rfl)
    (case k_NotMade => k_is)
    (case b_NotMade => k_is)
    (case t_NotMade => k_is)
    (case u_NotMade => kernel_rfl)
    (case ea_NotMade => k_is)
    (case eb_NotMade => k_is)
    (case ec_NotMade => k_is)
    (case ed_NotMade => k_is)
    (case ee_NotMade => k_is)
    (case eg => k_is)
    (case eh => k_is)
    (case i_made_made => kernel_rfl)
    (case yc_law => rfl)
    (case yl_law => k_is)
    (case y1_law => kernel_rfl)
    (case yn_law => kernel_rfl)
    (case yh_law => kernel_rfl)
    (case yc_steps_on => rfl)
    (case yl_steps_on => k_is)
    (case y1_steps_on => kernel_rfl)
    (case yn_steps_on => kernel_rfl)
    (case yh_steps_on => kernel_rfl)
    (case y_nd => kernel_rfl)
