import PyProof.Rows.All
import Wide.All
import OpenK.AllK
import Wide.FinOn
import HandS.ForMost
import HandS.Flow
import HandS.IsInst
import HandS.TupAny
import HandS.Deep
import HandS.Conv
import HandS.Wide
import HandS.Strs
import HandS.Exc
import HandS.ExcOwn
import HandS.WordsExc
import HandS.TryOnly
import HandS.Lambda
import KE.KeyNested
import KE.KDictKeyed
import KE.KDictDisplayH
import KE.KDictWalk
import KE.GoesDict
import HandS.Style
import HandS.Zip
import HandS.More
import HandS.Set
import HandS.Ends
import HandS.ExcIs
import HandS.EndOwn
import KE.KNestM
import HandS.TupMul
import HandS.RaiseMore
import HandS.StrMore
import HandS.FStr
import KE.GoesEnum
import HandS.SortInts
import PyProof.ZipIter
import PyProof.TupleOfSeq
import HandS.Iter
import KE.SortData
import KE.DataCmp
import KE.DataMinMax
import HandS.TupLen
import HandS.TupSets
import KE.KDictSum
import KE.KExcSuper
import HandS.ExcInit
import HandS.ExcField
import HandS.Nested
import PyProof.FString2
import KE.KExcIs
import PyProof.DefMake
import PySem.Challenge.RW_pairskept_k06_whole_normals
set_option Elab.async false
set_option linter.all false
set_option maxRecDepth 100000
set_option maxHeartbeats 2000000
/-! # Data: what the values are worth, apart from where they lie -/
namespace DL
open PySem PySem.Spec L2
open PyProof.Rows hiding St

/-- data: lists (lst) that are never written again; ro: a list that is only read (the script, a constant); ref: the n-th of the things that are written -/
inductive D where
  | non | bl (b : Bool) | int (i : Int) | str (x : Str) | tup (l : List D) | lst (l : List D) | ro (l : List D) | ref (n : Nat) | raw (v : V)
  /-- the lambda of the def d, with what it captured -/
  | clo (d : Str) (l : List D)
/-- a thing that is written -/
inductive SO where
  | lst (l : List D)
  | dK (l : List (Key × D))
  /-- the table of the code objects of the def d -/
  | tab (d q : Str)
  /-- a dict whose keys are tuples -/
  | dN (l : List (D × D))
  /-- an instance of a class of the text -/
  | ins (c : Str) (l : List (Str × D))
  /-- such a dict that a loop walked: it is not written again -/
  | fN (l : List (D × D))
abbrev Sto := List SO
structure Exn where
  cls : Str
  fld : Option (Str × D)
inductive Out (α : Type) where
  | ok (a : α) (st : Sto)
  | exn (x : Exn) (st : Sto)
  | bad
def Out.bind {α β : Type} (o : Out α) (k : α → Sto → Out β) : Out β := match o with
  | .ok a st => k a st
  | .exn x st => .exn x st
  | .bad => .bad
@[simp] theorem Out.bind_ok {α β : Type} (a : α) (st : Sto) (k : α → Sto → Out β) : (Out.ok a st).bind k = k a st := rfl
@[simp] theorem Out.bind_exn {α β : Type} (x : Exn) (st : Sto) (k : α → Sto → Out β) : (Out.exn x st).bind k = .exn x st := rfl
@[simp] theorem Out.bind_bad {α β : Type} (k : α → Sto → Out β) : (Out.bad : Out α).bind k = .bad := rfl
def Out.sat {α : Type} (o : Out α) (P : α → Sto → Prop) (E : Exn → Sto → Prop) : Prop := match o with
  | .ok a st => P a st
  | .exn x st => E x st
  | .bad => False
theorem Out.sat_bind {α β : Type} {o : Out α} {k : α → Sto → Out β} {P : β → Sto → Prop} {E : Exn → Sto → Prop} (h : (o.bind k).sat P E) : o.sat (fun a st => (k a st).sat P E) E := by
  cases o <;> exact h
theorem Out.sat.mono {α : Type} {o : Out α} {P P' : α → Sto → Prop} {E E' : Exn → Sto → Prop} (h : o.sat P E) (hP : ∀ a st, P a st → P' a st) (hE : ∀ x st, E x st → E' x st) : o.sat P' E' := by
  cases o with
  | ok a st => exact hP a st h
  | exn x st => exact hE x st h
  | bad => exact h

/-- where the written things lie, by number; what only the machine holds now (a comprehension's list in the making) -/
structure Bx where
  lo : List Addr
  pv : List Addr
def Bx.fre (β : Bx) (a : Addr) : Prop := a ∉ β.lo ∧ a ∉ β.pv
abbrev Env := List (Option D)
abbrev G (α : Type) := Env → Sto → Out α

/-- what does not change: the text, its heap at the start, the world, what is known besides -/
structure Zx where
  P : Program
  K : PySem.W.Frag
  w : World
  base : Heap
instance : Coe Zx PySem.W.Frag := ⟨Zx.K⟩
abbrev zOf (X : Cx) : Zx := ⟨X.prog, X.K, X.w, X.base⟩
/-- a lambda of the text -/
structure LamD where
  params : Arguments
  body : Expr
  scope : Scope
/-- the lambda that the def d hands on in its return -/
def lamIn (P : Program) (d : Str) : Option LamD := P.main.body.findSome? fun st => match st with
  | .FunctionDef n _ body _ _ _ _ _ _ _ => if n = d then (body.findSome? fun s => match s with
    | .Return (some (.Call _ args _ _)) _ => args.findSome? fun a => match a with
      | .Lambda ps b sc _ => some ⟨ps, b, sc⟩
      | _ => none
    | _ => none) else none
  | _ => none
/-- the name of the lambda of the def d -/
def lamQn (d : Str) : Str := d ++ (".<locals>." : Str) ++ ("<lambda>" : Str)
/-- the names that a lambda captures -/
def capN (sc : Scope) : List Str := sc.names.filterMap fun y => match y.2 with
  | .free => some y.1
  | _ => none
/-- what stands in the captured cells -/
def CapOk (base : Heap) (sc : Scope) (cl : List (Str × Addr)) (vs : List V) : Prop := vs.length = (capN sc).length ∧ (∀ (i : Nat) (x : Str) (v : V), (capN sc)[i]? = some x → vs[i]? = some v → (∃ c u, cl.lookup x = some c ∧ base.IsCell c (some u) ∧ RelV v u)) ∧
  (∀ x c, cl.lookup x = some c → x ∈ capN sc) ∧ ∀ x y c, cl.lookup x = some c → cl.lookup y = some c → x = y
section
variable (K : Zx)
/-- a list that is only read -/
def SqR (H : Hp) (a : Addr) (xs : List V) : Prop := (∃ o, H a = some (.frz o (.lst xs))) ∨
  ∃ (o : Obj) (its : Array Value) (n : Nat), K.K.lookup a = some o ∧ o.cls = .type "list" ∧ o.dict = none ∧ o.data = .seq its n ∧ its.size ≤ sizeLine ∧ Vals xs its.toList
mutual
inductive Rep (β : Bx) (H : Hp) : V → D → Prop
  | non : Rep β H .non .non
  | bl (b : Bool) : Rep β H (.bl b) (.bl b)
  | int (i : Int) : Rep β H (.int i) (.int i)
  | str (x : Str) : Rep β H (.str x) (.str x)
  | tup {a : Addr} {xs : List V} {ds : List D} : SqT K H a xs → Reps β H xs ds → ds.length ≤ sizeLine → Rep β H (.ref a) (.tup ds)
  | lst {a : Addr} {xs : List V} {ds : List D} : H a = some (.lst xs) → β.fre a → Reps β H xs ds → ds.length ≤ sizeLine → Rep β H (.ref a) (.lst ds)
  | ro {a : Addr} {xs : List V} {ds : List D} : SqR K H a xs → Reps β H xs ds → ds.length ≤ sizeLine → Rep β H (.ref a) (.ro ds)
  | ref {a : Addr} {n : Nat} : β.lo[n]? = some a → Rep β H (.ref a) (.ref n)
  | raw (v : V) : Rep β H v (.raw v)
  | clo {f c' : Addr} {d : Str} {L : LamD} {cl : List (Str × Addr)} {pm ctv : Value} {vs : List V} {ds : List D} : lamIn K.P d = some L → K.base.get? f = some (PySem.W.kla_obj "<lambda>" (lamQn d) L.params L.body L.scope cl pm c' ctv) →
      H c' = some (LamX.CodeO c' (lamQn d)) → CapOk K.base L.scope cl vs → Reps β H vs ds → Rep β H (.ref f) (.clo d ds)
inductive Reps (β : Bx) (H : Hp) : List V → List D → Prop
  | nil : Reps β H [] []
  | cons {v : V} {vs : List V} {d : D} {ds : List D} : Rep β H v d → Reps β H vs ds → Reps β H (v :: vs) (d :: ds)
end
end
/-- nothing stands there but a table -/
def Free (H : Hp) (p : Addr) : Prop := ∀ o, H p = some o → ∃ ps, o = .tbl ps
theorem Free.none {H : Hp} {p : Addr} (h : H p = .none) : Free H p := fun o z => by rw [h] at z; cases z
/-- how things move on: more may be written things, what isn't written stands -/
structure Ext (β : Bx) (H : Hp) (β' : Bx) (H' : Hp) : Prop where
  pre : ∃ new, β'.lo = β.lo ++ new ∧ ∀ p ∈ new, Free H p
  pv : β'.pv = β.pv
  keep : ∀ b o, b ∉ β.lo → H b = some o → (∀ ps, o ≠ .tbl ps) → H' b = some o
  tup : ∀ b xs, H b = some (.tup xs) → H' b = some (.tup xs)
  frz : ∀ b o u, H b = some (.frz o u) → H' b = some (.frz o u)
  dom : ∀ b o, H b = some o → (∀ ps, o ≠ .tbl ps) → ∃ o', H' b = some o' ∧ ∀ ps, o' ≠ .tbl ps
  cod : ∀ c q, H c = some (LamX.CodeO c q) → H' c = some (LamX.CodeO c q)
theorem Ext.refl (β : Bx) (H : Hp) : Ext β H β H := ⟨⟨[], by simp, by simp⟩, rfl, fun _ _ _ h _ => h, fun _ _ h => h, fun _ _ _ h => h, fun _ o h n => ⟨o, h, n⟩, fun _ _ h => h⟩
theorem Ext.trans {β β1 β2 : Bx} {H H1 H2 : Hp} (a : Ext β H β1 H1) (b : Ext β1 H1 β2 H2) : Ext β H β2 H2 := by
  obtain ⟨n1, e1, f1⟩ := a.pre
  obtain ⟨n2, e2, f2⟩ := b.pre
  refine ⟨⟨n1 ++ n2, by rw [e2, e1, List.append_assoc], fun p hp => ?_⟩, b.pv.trans a.pv, fun c o hc h hn => ?_, fun c xs h => b.tup c xs (a.tup c xs h), fun c o u h => b.frz c o u (a.frz c o u h), fun c o h n => ?_, fun c q h => b.cod c q (a.cod c q h)⟩
  · rcases List.mem_append.mp hp with hp | hp
    · exact f1 p hp
    · intro o q
      refine Classical.byContradiction fun hn => ?_
      obtain ⟨o', z, n⟩ := a.dom p o q fun ps z => hn ⟨ps, z⟩
      obtain ⟨ps, z⟩ := f2 p hp o' z
      exact n ps z
  · refine b.keep c o ?_ (a.keep c o hc h hn) hn
    rw [e1]
    intro z
    rcases List.mem_append.mp z with z | z
    · exact hc z
    · obtain ⟨ps, z⟩ := f1 c z o h
      exact hn ps z
  · obtain ⟨o', h', n'⟩ := a.dom c o h n
    exact b.dom c o' h' n'
theorem Ext.same {β : Bx} {H H' : Hp} (s : Same H H') : Ext β H β H' := ⟨⟨[], by simp, by simp⟩, rfl, fun _ _ _ h _ => s _ _ h, fun _ _ h => s _ _ h, fun _ _ _ h => s _ _ h, fun _ o h n => ⟨o, s _ _ h, n⟩, fun _ _ h => s _ _ h⟩
theorem same_new {H : Hp} {p : Addr} {o : HO} (h : H p = none) : Same H (upd H p o) := fun b x e => by
  rw [upd_ne (ne_of_none e h)]
  exact e
theorem Ext.new {β : Bx} {H : Hp} {p : Addr} {o : HO} (h : H p = none) : Ext β H β (upd H p o) := Ext.same (same_new h)
section
variable {K : Zx} {β β' : Bx} {H H' : Hp}
theorem Ext.mem (e : Ext β H β' H') {n : Nat} {a : Addr} (h : β.lo[n]? = some a) : β'.lo[n]? = some a := by
  obtain ⟨new, e1, _⟩ := e.pre
  rw [e1, List.getElem?_append_left (by exact (List.getElem?_eq_some_iff.mp h).1)]
  exact h
theorem Ext.nmem (e : Ext β H β' H') {a : Addr} {xs : List V} (h : H a = some (.lst xs)) (n : β.fre a) : β'.fre a := by
  obtain ⟨new, e1, f⟩ := e.pre
  refine ⟨fun z => ?_, by rw [e.pv]; exact n.2⟩
  rw [e1] at z
  rcases List.mem_append.mp z with z | z
  · exact n.1 z
  · obtain ⟨ps, z⟩ := f a z _ h
    cases z
theorem Ext.sqT (e : Ext β H β' H') {a : Addr} {xs : List V} (h : SqT K H a xs) : SqT K H' a xs := by
  rcases h with (h | ⟨o, h⟩) | h
  · exact .inl (.inl (e.tup _ _ h))
  · exact .inl (.inr ⟨o, e.frz _ _ _ h⟩)
  · exact .inr h
theorem Ext.sqR (e : Ext β H β' H') {a : Addr} {xs : List V} (h : SqR K H a xs) : SqR K H' a xs := by
  rcases h with ⟨o, h⟩ | h
  · exact .inl ⟨o, e.frz _ _ _ h⟩
  · exact .inr h
end

section
variable {K : Zx} {β β' : Bx} {H H' : Hp}
/-- what a value's data lean on stands -/
structure Mv (β : Bx) (H : Hp) (β' : Bx) (H' : Hp) : Prop where
  lst : ∀ a xs, H a = some (.lst xs) → β.fre a → H' a = some (.lst xs) ∧ β'.fre a
  tup : ∀ b xs, H b = some (.tup xs) → H' b = some (.tup xs)
  frz : ∀ b o u, H b = some (.frz o u) → H' b = some (.frz o u)
  mem : ∀ (n : Nat) (a : Addr), β.lo[n]? = some a → β'.lo[n]? = some a
  cod : ∀ c q, H c = some (LamX.CodeO c q) → H' c = some (LamX.CodeO c q)
theorem Mv.sqT (e : Mv β H β' H') {a : Addr} {xs : List V} (h : SqT K H a xs) : SqT K H' a xs := by
  rcases h with (h | ⟨o, h⟩) | h
  · exact .inl (.inl (e.tup _ _ h))
  · exact .inl (.inr ⟨o, e.frz _ _ _ h⟩)
  · exact .inr h
theorem Mv.sqR (e : Mv β H β' H') {a : Addr} {xs : List V} (h : SqR K H a xs) : SqR K H' a xs := by
  rcases h with ⟨o, h⟩ | h
  · exact .inl ⟨o, e.frz _ _ _ h⟩
  · exact .inr h
theorem Ext.mv (e : Ext β H β' H') : Mv β H β' H' := ⟨fun a xs h n => ⟨e.keep _ _ n.1 h (fun ps z => by cases z), e.nmem h n⟩, e.tup, e.frz, fun _ _ h => e.mem h, e.cod⟩
theorem Mv.trans {β2 : Bx} {H2 : Hp} (a : Mv β H β' H') (b : Mv β' H' β2 H2) : Mv β H β2 H2 :=
  ⟨fun c xs h n => let ⟨h1, n1⟩ := a.lst c xs h n; b.lst c xs h1 n1, fun c xs h => b.tup c xs (a.tup c xs h), fun c o u h => b.frz c o u (a.frz c o u h), fun n c h => b.mem n c (a.mem n c h), fun c q h => b.cod c q (a.cod c q h)⟩
mutual
theorem Rep.move (e : Mv β H β' H') : ∀ (d : D) (v : V), Rep K β H v d → Rep K β' H' v d
  | .non, _, h => by cases h; exact .non
  | .bl _, _, h => by cases h; exact .bl _
  | .int _, _, h => by cases h; exact .int _
  | .str _, _, h => by cases h; exact .str _
  | .tup ds, _, h => by cases h with | tup hs ha hl => exact .tup (e.sqT hs) (Reps.move e ds _ ha) hl
  | .lst ds, _, h => by cases h with | lst hs hn ha hl => exact .lst (e.lst _ _ hs hn).1 (e.lst _ _ hs hn).2 (Reps.move e ds _ ha) hl
  | .ro ds, _, h => by cases h with | ro hs ha hl => exact .ro (e.sqR hs) (Reps.move e ds _ ha) hl
  | .ref _, _, h => by cases h with | ref hm => exact .ref (e.mem _ _ hm)
  | .raw _, _, h => by cases h; exact .raw _
  | .clo _ ds, _, h => by cases h with | clo h1 h2 h3 h4 h5 => exact .clo h1 h2 (e.cod _ _ h3) h4 (Reps.move e ds _ h5)
theorem Reps.move (e : Mv β H β' H') : ∀ (ds : List D) (vs : List V), Reps K β H vs ds → Reps K β' H' vs ds
  | [], _, h => by cases h; exact .nil
  | d :: ds, _, h => by cases h with | cons h1 h2 => exact .cons (Rep.move e d _ h1) (Reps.move e ds _ h2)
end
theorem Rep.ext (e : Ext β H β' H') (d : D) (v : V) (h : Rep K β H v d) : Rep K β' H' v d := Rep.move e.mv d v h
theorem Reps.ext (e : Ext β H β' H') (d : List D) (v : List V) (h : Reps K β H v d) : Reps K β' H' v d := Reps.move e.mv d v h
theorem Reps.length : ∀ {vs : List V} {ds : List D}, Reps K β H vs ds → vs.length = ds.length
  | _, _, .nil => rfl
  | _, _, .cons _ t => congrArg (· + 1) (Reps.length t)
theorem Reps.append : ∀ {vs ws : List V} {ds es : List D}, Reps K β H vs ds → Reps K β H ws es → Reps K β H (vs ++ ws) (ds ++ es)
  | _, _, _, _, .nil, s => s
  | _, _, _, _, .cons r t, s => .cons r (Reps.append t s)
theorem Reps.get : ∀ {vs : List V} {ds : List D} {i : Nat} {d : D}, Reps K β H vs ds → ds[i]? = some d → ∃ v, vs[i]? = some v ∧ Rep K β H v d
  | _, _, _, _, .nil, e => by simp at e
  | _, _, 0, _, .cons r _, e => by simp at e; subst e; exact ⟨_, rfl, r⟩
  | _, _, i + 1, d, .cons _ t, e => by
    obtain ⟨v, h1, h2⟩ := Reps.get (i := i) (d := d) t (by simpa using e)
    exact ⟨v, by simpa using h1, h2⟩
theorem Reps.got : ∀ {vs : List V} {ds : List D} {i : Nat} {v : V}, Reps K β H vs ds → vs[i]? = some v → ∃ d, ds[i]? = some d ∧ Rep K β H v d
  | _, _, _, _, .nil, e => by simp at e
  | _, _, 0, _, .cons r _, e => by simp at e; subst e; exact ⟨_, rfl, r⟩
  | _, _, i + 1, v, .cons _ t, e => by
    obtain ⟨d, h1, h2⟩ := Reps.got (i := i) (v := v) t (by simpa using e)
    exact ⟨d, by simpa using h1, h2⟩
theorem Reps.take : ∀ {vs : List V} {ds : List D} (n : Nat), Reps K β H vs ds → Reps K β H (vs.take n) (ds.take n)
  | _, _, 0, _ => .nil
  | _, _, _ + 1, .nil => .nil
  | _, _, n + 1, .cons r t => .cons r (Reps.take n t)
theorem Reps.drop : ∀ {vs : List V} {ds : List D} (n : Nat), Reps K β H vs ds → Reps K β H (vs.drop n) (ds.drop n)
  | _, _, 0, r => r
  | _, _, _ + 1, .nil => .nil
  | _, _, n + 1, .cons _ t => Reps.drop n t
theorem Reps.set {v : V} {d : D} (r : Rep K β H v d) : ∀ {vs : List V} {ds : List D} (i : Nat), Reps K β H vs ds → Reps K β H (vs.set i v) (ds.set i d)
  | _, _, _, .nil => .nil
  | _, _, 0, .cons _ t => .cons r t
  | _, _, i + 1, .cons q t => .cons q (Reps.set r i t)
theorem Reps.one {vs : List V} {d : D} (h : Reps K β H vs [d]) : ∃ v, vs = [v] ∧ Rep K β H v d := by
  cases h with | cons r t => cases t; exact ⟨_, rfl, r⟩
theorem Reps.two {vs : List V} {d e : D} (h : Reps K β H vs [d, e]) : ∃ v w, vs = [v, w] ∧ Rep K β H v d ∧ Rep K β H w e := by
  cases h with
  | cons r t =>
    obtain ⟨w, rfl, q⟩ := t.one
    exact ⟨_, w, rfl, r, q⟩

/-! ### what is written -/
/-- where the law's own table of code objects lies -/
def tabOf (K : PySem.W.Frag) (o : Option Obj) : Addr := match o with
  | some ⟨_, _, .fields vs, _⟩ => (match vs[11]? with
    | some (Value.ref P) => P
    | _ => 0)
  | _ => 0
def codeAt (K : PySem.W.Frag) (o : Option Obj) : Option Obj := match o with
  | some ⟨_, _, .func fd, _⟩ => (match fd.code with
    | Value.ref c => K.lookup c
    | _ => none)
  | _ => none
def tabAddr (K : PySem.W.Frag) (d : Str) : Addr := match PySem.W.nsIn K mainGlobals d with
  | some (some (Value.ref f)) => tabOf K (codeAt K (K.lookup f))
  | _ => 0
/-! data as a key -/
mutual
def keyD : D → Option NestedKey
  | .non => some .none
  | .bl b => some (.num (if b then 1 else 0))
  | .int i => some (.num i)
  | .str x => some (.text x)
  | .tup l => (keysD l).map .tup
  | _ => none
def keysD : List D → Option (List NestedKey)
  | [] => some []
  | d :: ds => match keyD d, keysD ds with
    | some k, some ks => some (k :: ks)
    | _, _ => none
end
/-- a dict whose keys are tuples: the keys, where they lie, the values -/
def dictN (K : Zx) (a : Addr) (es : List (NestedKey × Addr × V)) : HO := .ext fun h => (es.map (·.1)).Nodup ∧ es.length ≤ sizeLine ∧ (a == sysModules) = false ∧ (∀ e ∈ es, e.1.depth ≤ 8) ∧ ∃ (o : Obj) (en : Array DictEntry) (ep : Nat) (us : List Value), h.get? a = some o ∧ o.ExactDict ∧ o.data = .dict en ep ∧ Vals (es.map (·.2.2)) us ∧
  en.toList = ((es.zip us).map fun p => (p.1.1, p.1.2.1, p.2)).map (entryOfKey (nestedKind K.P K.w))
def SORel (K : Zx) (β : Bx) (H : Hp) (a : Addr) : SO → Prop
  | .lst ds => ∃ xs, H a = some (.lst xs) ∧ Reps K β H xs ds
  | .dK kvs => ∃ vs, H a = some (.dK vs) ∧ vs.length = kvs.length ∧ vs.map (·.1) = kvs.map (·.1) ∧ Reps K β H (vs.map (·.2)) (kvs.map (·.2))
  | .tab d q => a = tabAddr K d ∧ LamX.TabS H a q
  | .dN kvs => ∃ es, H a = some (dictN K a es) ∧ es.length = kvs.length ∧ kvs.map (fun p => keyD p.1) = es.map (fun e => some e.1) ∧ Reps K β H (es.map fun e => V.ref e.2.1) (kvs.map (·.1)) ∧ Reps K β H (es.map (·.2.2)) (kvs.map (·.2))
  | .ins c fs => ∃ C dx vs, PySem.W.nsIn K mainGlobals c = some (some (.ref C)) ∧ H a = some (.ins C dx vs) ∧ vs.map (·.1) = fs.map (·.1) ∧ Reps K β H (vs.map (·.2)) (fs.map (·.2))
  | .fN kvs => ∃ o es, H a = some (.frz o (dictN K a es)) ∧ es.length = kvs.length ∧ kvs.map (fun p => keyD p.1) = es.map (fun e => some e.1) ∧ Reps K β H (es.map fun e => V.ref e.2.1) (kvs.map (·.1)) ∧ Reps K β H (es.map (·.2.2)) (kvs.map (·.2))
structure StoOk (K : Zx) (β : Bx) (H : Hp) (st : Sto) : Prop where
  len : β.lo.length = st.length
  nd : β.lo.Nodup
  obj : ∀ (n : Nat) (a : Addr) (o : SO), β.lo[n]? = some a → st[n]? = some o → SORel K β H a o
  priv : ∀ p ∈ β.pv, ∃ u, H p = some u ∧ ∀ ps, u ≠ .tbl ps
theorem SORel.there {a : Addr} {o : SO} (h : SORel K β H a o) : ∃ u, H a = some u := by
  cases o with
  | lst ds => obtain ⟨xs, h, _⟩ := h; exact ⟨_, h⟩
  | dK kvs => obtain ⟨vs, h, _⟩ := h; exact ⟨_, h⟩
  | tab d q => obtain ⟨_, ps, h, _⟩ := h; exact ⟨_, h⟩
  | dN kvs => obtain ⟨es, h, _⟩ := h; exact ⟨_, h⟩
  | ins c fs => obtain ⟨C, dx, vs, _, h, _⟩ := h; exact ⟨_, h⟩
  | fN kvs => obtain ⟨o, es, h, _⟩ := h; exact ⟨_, h⟩
theorem StoOk.get {st : Sto} (S : StoOk K β H st) {n : Nat} {a : Addr} (h : β.lo[n]? = some a) : ∃ o, st[n]? = some o ∧ SORel K β H a o := by
  have hl : n < st.length := by rw [← S.len]; exact (List.getElem?_eq_some_iff.mp h).1
  exact ⟨st[n], List.getElem?_eq_getElem hl, S.obj n a _ h (List.getElem?_eq_getElem hl)⟩
theorem StoOk.some {st : Sto} (S : StoOk K β H st) {a : Addr} (h : a ∈ β.lo) : ∃ u, H a = some u := by
  obtain ⟨n, hn⟩ := List.mem_iff_getElem?.mp h
  obtain ⟨o, _, r⟩ := S.get hn
  exact r.there
theorem StoOk.nmem {st : Sto} (S : StoOk K β H st) {a : Addr} (h : H a = none) : β.fre a := by
  refine ⟨fun z => ?_, fun z => ?_⟩
  · obtain ⟨u, hu⟩ := S.some z
    rw [h] at hu
    cases hu
  · obtain ⟨u, hu, _⟩ := S.priv a z
    rw [h] at hu
    cases hu
theorem SORel.same {a : Addr} {o : SO} (s : Same H H') (h : SORel K β H a o) : SORel K β H' a o := by
  cases o with
  | lst ds => obtain ⟨xs, h, r⟩ := h; exact ⟨xs, s _ _ h, Reps.ext (Ext.same s) _ _ r⟩
  | dK kvs => obtain ⟨vs, h, l, k, r⟩ := h; exact ⟨vs, s _ _ h, l, k, Reps.ext (Ext.same s) _ _ r⟩
  | tab d q => exact ⟨h.1, h.2.ext s⟩
  | dN kvs => obtain ⟨es, h, l, k, r1, r2⟩ := h; exact ⟨es, s _ _ h, l, k, Reps.ext (Ext.same s) _ _ r1, Reps.ext (Ext.same s) _ _ r2⟩
  | ins c fs => obtain ⟨C, dx, vs, hc, h, l, r⟩ := h; exact ⟨C, dx, vs, hc, s _ _ h, l, Reps.ext (Ext.same s) _ _ r⟩
  | fN kvs => obtain ⟨o, es, h, l, k, r1, r2⟩ := h; exact ⟨o, es, s _ _ h, l, k, Reps.ext (Ext.same s) _ _ r1, Reps.ext (Ext.same s) _ _ r2⟩
theorem StoOk.same {st : Sto} (S : StoOk K β H st) (s : Same H H') : StoOk K β H' st := ⟨S.len, S.nd, fun n a o h1 h2 => (S.obj n a o h1 h2).same s, fun p hp => let ⟨u, hu, n⟩ := S.priv p hp; ⟨u, s _ _ hu, n⟩⟩
theorem StoOk.fresh {st : Sto} (S : StoOk K β H st) {p : Addr} {o : HO} (h : H p = none) : StoOk K β (upd H p o) st := S.same (same_new h)

theorem tab_move {a : Addr} {q : Str} (e : Mv β H β' H') (k : ∀ u, H a = some u → H' a = some u) (h : LamX.TabS H a q) : LamX.TabS H' a q := by
  obtain ⟨ps, h1, h2, h3⟩ := h
  refine ⟨ps, k _ h1, h2, fun pos cv hc => ?_⟩
  obtain ⟨c, e1, e2⟩ := h3 pos cv hc
  exact ⟨c, e1, e.cod c q e2⟩
theorem SORel.move {a : Addr} {o : SO} (e : Mv β H β' H') (k : ∀ u, H a = some u → H' a = some u) (h : SORel K β H a o) : SORel K β' H' a o := by
  cases o with
  | lst ds => obtain ⟨xs, h, r⟩ := h; exact ⟨xs, k _ h, Reps.move e _ _ r⟩
  | dK kvs => obtain ⟨vs, h, l, q, r⟩ := h; exact ⟨vs, k _ h, l, q, Reps.move e _ _ r⟩
  | tab d q => exact ⟨h.1, tab_move e k h.2⟩
  | dN kvs => obtain ⟨es, h, l, q, r1, r2⟩ := h; exact ⟨es, k _ h, l, q, Reps.move e _ _ r1, Reps.move e _ _ r2⟩
  | ins c fs => obtain ⟨C, dx, vs, hc, h, l, r⟩ := h; exact ⟨C, dx, vs, hc, k _ h, l, Reps.move e _ _ r⟩
  | fN kvs => obtain ⟨o, es, h, l, q, r1, r2⟩ := h; exact ⟨o, es, k _ h, l, q, Reps.move e _ _ r1, Reps.move e _ _ r2⟩
/-- the machine holds a new thing at p -/
def Bx.hold (β : Bx) (p : Addr) : Bx := ⟨β.lo, p :: β.pv⟩
/-- .. gives it away -/
def Bx.back (β : Bx) (pv : List Addr) : Bx := ⟨β.lo, pv⟩
theorem Mv.hold {p : Addr} {o : HO} (h : H p = none) : Mv β H (β.hold p) (upd H p o) :=
  ⟨fun a xs ha n => ⟨same_new h _ _ ha, n.1, fun z => (List.mem_cons.mp z).elim (fun e => ne_of_none ha h e) n.2⟩, fun _ _ q => same_new h _ _ q, fun _ _ _ q => same_new h _ _ q, fun _ _ q => q, fun _ _ q => same_new h _ _ q⟩
theorem StoOk.hold {st : Sto} {p : Addr} {o : HO} (S : StoOk K β H st) (h : H p = none) (no : ∀ ps, o ≠ .tbl ps := by intro _ z; cases z) : StoOk K (β.hold p) (upd H p o) st :=
  ⟨S.len, S.nd, fun n a u h1 h2 => (S.obj n a u h1 h2).move (Mv.hold h) fun _ q => same_new h _ _ q, fun q hq => by
    rcases List.mem_cons.mp hq with rfl | hq
    · exact ⟨o, upd_same, no⟩
    · obtain ⟨u, hu, n⟩ := S.priv q hq
      exact ⟨u, same_new h _ _ hu, n⟩⟩
theorem Mv.poke {p : Addr} {xs : List V} {o : HO} (hp : p ∈ β.pv) (h : H p = some (.lst xs)) : Mv β H β (upd H p o) := by
  have ne : ∀ b u, H b = some u → u ≠ .lst xs → b ≠ p := fun b u q n z => by
    rw [z, h] at q
    exact n (Option.some.inj q).symm
  exact ⟨fun a xs ha n => ⟨by rw [upd_ne (show a ≠ p from fun z => n.2 (by rw [z]; exact hp))]; exact ha, n⟩, fun b _ q => by rw [upd_ne (ne b _ q fun z => by cases z)]; exact q, fun b _ _ q => by rw [upd_ne (ne b _ q fun z => by cases z)]; exact q, fun _ _ q => q, fun b _ q => by rw [upd_ne (ne b _ q fun z => by cases z)]; exact q⟩
theorem StoOk.poke {st : Sto} {p : Addr} {xs : List V} {o : HO} (S : StoOk K β H st) (hp : p ∈ β.pv) (hl : p ∉ β.lo) (h : H p = Option.some (.lst xs)) (no : ∀ ps, o ≠ .tbl ps := by intro _ z; cases z) : StoOk K β (upd H p o) st :=
  ⟨S.len, S.nd, fun n a u h1 h2 => (S.obj n a u h1 h2).move (Mv.poke hp h) fun v q => by rw [upd_ne (show a ≠ p from fun z => hl (by rw [← z]; exact List.mem_iff_getElem?.mpr ⟨n, h1⟩))]; exact q, fun q hq => by
    by_cases e : q = p
    · exact ⟨o, by rw [e, upd_same], no⟩
    · obtain ⟨u, hu, n⟩ := S.priv q hq
      exact ⟨u, by rw [upd_ne e]; exact hu, n⟩⟩
theorem Mv.back {pv : List Addr} (hs : ∀ a ∈ pv, a ∈ β.pv) : Mv β H (β.back pv) H := ⟨fun a xs h n => ⟨h, n.1, fun z => n.2 (hs a z)⟩, fun _ _ q => q, fun _ _ _ q => q, fun _ _ q => q, fun _ _ q => q⟩
theorem StoOk.back {st : Sto} {pv : List Addr} (S : StoOk K β H st) (hs : ∀ a ∈ pv, a ∈ β.pv) : StoOk K (β.back pv) H st :=
  ⟨S.len, S.nd, fun n a u h1 h2 => (S.obj n a u h1 h2).move (Mv.back hs) fun _ q => q, fun q hq => S.priv q (hs q hq)⟩
/-- while p was held -/
theorem Ext.held {β1 : Bx} {H1 : Hp} {p : Addr} {o : HO} (h : H p = none) (e : Ext (β.hold p) (upd H p o) β1 H1) : Ext β H (β1.back β.pv) H1 := by
  obtain ⟨new, e1, f⟩ := e.pre
  refine ⟨⟨new, e1, fun q hq => ?_⟩, rfl, fun b u hb hu hn => e.keep b u hb (same_new h _ _ hu) hn, fun b xs q => e.tup b xs (same_new h _ _ q), fun b o u q => e.frz b o u (same_new h _ _ q), fun b u q n => e.dom b u (same_new h _ _ q) n, fun c q z => e.cod c q (same_new h _ _ z)⟩
  have z := f q hq
  by_cases hqp : q = p
  · rw [hqp]; exact Free.none h
  · intro w hw
    exact z w (by rw [upd_ne hqp]; exact hw)
theorem Ext.poke {β1 : Bx} {H1 : Hp} {p : Addr} {ys : List V} {xs : List V} {u : HO} (h : H p = none) (e : Ext (β.hold p) (upd H p (.lst ys)) β1 H1) (hx : H1 p = some (.lst xs)) (no : ∀ ps, u ≠ .tbl ps := by intro _ z; cases z) : Ext (β.hold p) (upd H p u) β1 (upd H1 p u) := by
  obtain ⟨new, e1, f⟩ := e.pre
  have up : ∀ {b : Addr} {w x : HO}, b ≠ p → upd H p w b = some x → upd H p (.lst ys) b = some x := fun {b w x} n q => by rw [upd_ne n] at q ⊢; exact q
  refine ⟨⟨new, e1, fun q hq => ?_⟩, e.pv, fun b v hb hv hn => ?_, fun b ys q => ?_, fun b w v q => ?_, fun b v q n => ?_, fun c q' z => ?_⟩
  · have z := f q hq
    by_cases hqp : q = p
    · obtain ⟨ps, z⟩ := z (.lst ys) (by rw [hqp, upd_same])
      cases z
    · intro w hw
      exact z w (up hqp hw)
  · by_cases hbp : b = p
    · rw [hbp, upd_same] at hv ⊢
      exact hv
    · rw [upd_ne hbp]
      exact e.keep b v hb (up hbp hv) hn
  · by_cases hbp : b = p
    · rw [hbp, upd_same] at q ⊢
      exact q
    · rw [upd_ne hbp]
      exact e.tup b ys (up hbp q)
  · by_cases hbp : b = p
    · rw [hbp, upd_same] at q ⊢
      exact q
    · rw [upd_ne hbp]
      exact e.frz b w v (up hbp q)
  · by_cases hbp : b = p
    · exact ⟨u, by rw [hbp, upd_same], no⟩
    · rw [upd_ne hbp]
      exact e.dom b v (up hbp q) n
  · by_cases hbp : c = p
    · rw [hbp, upd_same] at z ⊢
      exact z
    · rw [upd_ne hbp]
      exact e.cod c q' (up hbp z)

/-! ### the slots -/
def RepEnv (K : Zx) (β : Bx) (H : Hp) (σ : St) (ρ : Env) : Prop := σ.length = ρ.length ∧ ∀ (i : Nat) (d : D), ρ[i]? = some (some d) → ∃ v, σ[i]? = some (some v) ∧ Rep K β H v d
theorem RepEnv.ext {σ : St} {ρ : Env} (h : RepEnv K β H σ ρ) (e : Ext β H β' H') : RepEnv K β' H' σ ρ := ⟨h.1, fun i d q => by
  obtain ⟨v, h1, h2⟩ := h.2 i d q
  exact ⟨v, h1, Rep.ext e _ _ h2⟩⟩
theorem RepEnv.set {σ : St} {ρ : Env} (h : RepEnv K β H σ ρ) (i : Nat) {v : V} {d : D} (r : Rep K β H v d) : RepEnv K β H (σ.set i (some v)) (ρ.set i (some d)) := by
  refine ⟨by rw [List.length_set, List.length_set]; exact h.1, fun j e q => ?_⟩
  by_cases hj : i = j
  · subst hj
    have hl : i < ρ.length := by
      have := (List.getElem?_eq_some_iff.mp q).1
      simpa using this
    rw [List.getElem?_set_self hl] at q
    have q := Option.some.inj (Option.some.inj q)
    subst q
    exact ⟨v, List.getElem?_set_self (by rw [h.1]; exact hl), r⟩
  · rw [List.getElem?_set_ne hj] at q
    obtain ⟨w, h1, h2⟩ := h.2 j e q
    exact ⟨w, by rw [List.getElem?_set_ne hj]; exact h1, h2⟩

/-! ### ends -/
/-- an error by its class's name -/
def XRep (K : Zx) (mg : Str → Option Value) (β : Bx) (H : Hp) (x : Exn) (cls : Value) (dd : Option Addr) : Prop :=
  mg x.cls = some cls ∧ match x.fld with
    | none => dd = none
    | some (f, d) => ∃ da v, dd = some da ∧ H da = some (.xd [(f, v)]) ∧ Rep K β H v d
def PostV (K : Zx) (Q : VK) (β : Bx) (H : Hp) : D → Sto → Prop := fun d st' => ∀ v β' H', Ext β H β' H' → StoOk K β' H' st' → Rep K β' H' v d → Q v H'
def PostX (K : Zx) (mg : Str → Option Value) (E : XK) (β : Bx) (H : Hp) : Exn → Sto → Prop := fun x st' => ∀ cls dd β' H', Ext β H β' H' → StoOk K β' H' st' → XRep K mg β' H' x cls dd → E cls dd H'
theorem PostV.ext {Q : VK} {d : D} {st : Sto} (p : PostV K Q β H d st) (e : Ext β H β' H') : PostV K Q β' H' d st := fun v β2 H2 e2 => p v β2 H2 (e.trans e2)
theorem PostX.ext {mg : Str → Option Value} {E : XK} {x : Exn} {st : Sto} (p : PostX K mg E β H x st) (e : Ext β H β' H') : PostX K mg E β' H' x st := fun c d β2 H2 e2 => p c d β2 H2 (e.trans e2)
end

/-- an expression's reading by its data -/
def tD (K : Zx) (mg : Str → Option Value) (W : WX) (f : G D) : TE := fun σ H Q => ∃ β ρ st, RepEnv K β H σ ρ ∧ StoOk K β H st ∧
  (f ρ st).sat (PostV K Q β H) (PostX K mg (fun c d H' => W c d σ H') β H)
def PostB (K : Zx) (Q : Bool → Hp → Prop) (β : Bx) (H : Hp) : Bool → Sto → Prop := fun b st' => ∀ β' H', Ext β H β' H' → StoOk K β' H' st' → Q b H'
def tDT (K : Zx) (mg : Str → Option Value) (W : WX) (f : G Bool) : TT := fun σ H Q => ∃ β ρ st, RepEnv K β H σ ρ ∧ StoOk K β H st ∧
  (f ρ st).sat (PostB K Q β H) (PostX K mg (fun c d H' => W c d σ H') β H)
def PostA (K : Zx) (Q : List V → Hp → Prop) (β : Bx) (H : Hp) : List D → Sto → Prop := fun ds st' => ∀ vs β' H', Ext β H β' H' → StoOk K β' H' st' → Reps K β' H' vs ds → Q vs H'
def tDA (K : Zx) (mg : Str → Option Value) (W : WX) (f : G (List D)) : TA := fun σ H Q => ∃ β ρ st, RepEnv K β H σ ρ ∧ StoOk K β H st ∧
  (f ρ st).sat (PostA K Q β H) (PostX K mg (fun c d H' => W c d σ H') β H)
inductive Fl where
  | nx (ρ : Env) | rt (d : D) | bk (ρ : Env) | ct (ρ : Env)
def PostF (K : Zx) (D' : Ends) (β : Bx) (H : Hp) : Fl → Sto → Prop := fun f st' => match f with
  | .nx ρ => ∀ σ β' H', Ext β H β' H' → StoOk K β' H' st' → RepEnv K β' H' σ ρ → D'.nx σ H'
  | .rt d => ∀ v β' H', Ext β H β' H' → StoOk K β' H' st' → Rep K β' H' v d → D'.rt v H'
  | .bk ρ => ∀ σ β' H', Ext β H β' H' → StoOk K β' H' st' → RepEnv K β' H' σ ρ → D'.bk σ H'
  | .ct ρ => ∀ σ β' H', Ext β H β' H' → StoOk K β' H' st' → RepEnv K β' H' σ ρ → D'.ct σ H'
def PostXS (K : Zx) (mg : Str → Option Value) (W : WX) (β : Bx) (H : Hp) : Exn → Sto → Prop := fun x st' => ∀ cls dd σ β' H', Ext β H β' H' → StoOk K β' H' st' → XRep K mg β' H' x cls dd → W cls dd σ H'
def tDS (K : Zx) (mg : Str → Option Value) (W : WX) (f : G Fl) : TS := fun D' σ H => ∃ β ρ st, RepEnv K β H σ ρ ∧ StoOk K β H st ∧
  (f ρ st).sat (PostF K D' β H) (PostXS K mg W β H)

theorem PEmono {X : Cx} {e : Expr} {t t' : TE} (h : PE X e t) (i : ∀ σ H Q, t' σ H Q → t σ H Q) : PE X e t' := ⟨fun pins s σ H Q I q => h.run pins s σ H Q I (i _ _ _ q)⟩
theorem PTmono {X : Cx} {e : Expr} {t t' : TT} (h : PT X e t) (i : ∀ σ H Q, t' σ H Q → t σ H Q) : PT X e t' := ⟨fun pins s σ H Q I q => h.run pins s σ H Q I (i _ _ _ q)⟩
theorem PWmono {X : Cx} {e : Expr} {t t' : TT} (h : PW X e t) (i : ∀ σ H Q, t' σ H Q → t σ H Q) : PW X e t' := ⟨fun wh pins s σ H Q I q => h.run wh pins s σ H Q I (i _ _ _ q)⟩
theorem PAmono {X : Cx} {es : List Expr} {t t' : TA} (h : PA X es t) (i : ∀ σ H Q, t' σ H Q → t σ H Q) : PA X es t' := ⟨fun pos pins s σ H Q I q => h.run pos pins s σ H Q I (i _ _ _ q)⟩
theorem PSmono {X : Cx} {st : Stmt} {t t' : TS} (h : PS X st t) (i : ∀ D' σ H, t' D' σ H → t D' σ H) : PS X st t' := ⟨fun pins s σ H D' I q => h.run pins s σ H D' I (i _ _ _ q)⟩
theorem PSsmono {X : Cx} {st : List Stmt} {t t' : TS} (h : PSs X st t) (i : ∀ D' σ H, t' D' σ H → t D' σ H) : PSs X st t' := ⟨fun pins s σ H D' I q => h.run pins s σ H D' I (i _ _ _ q)⟩
theorem PImono {X : Cx} {tg e : Expr} {t t' : TI} (h : PI X tg e t) (i : ∀ σ H R, t' σ H R → t σ H R) : PI X tg e t' := ⟨fun pins s σ H R I q => h.run pins s σ H R I (i _ _ _ q)⟩
theorem PGmono {X : Cx} {tg : Expr} {t t' : TG} (h : PG X tg t) (i : ∀ v σ H Q, t' v σ H Q → t v σ H Q) : PG X tg t' := ⟨fun pins s σ H v u Q I r q => h.run pins s σ H v u Q I r (i _ _ _ _ q)⟩

abbrev DE (X : Cx) (W : WX) (e : Expr) (f : G D) : Prop := PE X e (tD (zOf X) X.mg W f)
abbrev DT (X : Cx) (W : WX) (e : Expr) (f : G Bool) : Prop := PT X e (tDT (zOf X) X.mg W f)
abbrev DW (X : Cx) (W : WX) (e : Expr) (f : G Bool) : Prop := PW X e (tDT (zOf X) X.mg W f)
abbrev DA (X : Cx) (W : WX) (es : List Expr) (f : G (List D)) : Prop := PA X es (tDA (zOf X) X.mg W f)
abbrev DS (X : Cx) (W : WX) (st : Stmt) (f : G Fl) : Prop := PS X st (tDS (zOf X) X.mg W f)
abbrev DSs (X : Cx) (W : WX) (st : List Stmt) (f : G Fl) : Prop := PSs X st (tDS (zOf X) X.mg W f)
end DL

set_option Elab.async false
set_option linter.all false
set_option maxRecDepth 100000
set_option maxHeartbeats 2000000
namespace DL
open PySem PySem.Spec L2
open PyProof.Rows hiding St

/-! ### data as PyData, for == and in -/
mutual
def D.py : D → PyData
  | .non => .none
  | .bl b => .bool b
  | .int i => .int i
  | .str x => .str x
  | .tup l => .tuple (D.pys l)
  | .lst l => .list (D.pys l)
  | .ro l => .list (D.pys l)
  | .ref _ => .dict []
  | .raw _ => .dict []
  | .clo _ _ => .dict []
def D.pys : List D → List PyData
  | [] => []
  | d :: ds => D.py d :: D.pys ds
end
section
variable {K : Zx} {β : Bx} {H : Hp}
theorem SqR.sqL {a : Addr} {xs : List V} (h : SqR K H a xs) : SqL K H a xs := by
  rcases h with ⟨o, h⟩ | h
  · exact .inl (.inr ⟨o, h⟩)
  · exact .inr h
mutual
theorem Rep.dp : ∀ (d : D) (v : V), d.py.canLay0 = true → Rep K β H v d → Dp K H v d.py
  | .non, _, _, h => by cases h; simp only [D.py]; exact .non
  | .bl _, _, _, h => by cases h; simp only [D.py]; exact .bl _
  | .int _, _, _, h => by cases h; simp only [D.py]; exact .int _
  | .str _, _, _, h => by cases h; simp only [D.py]; exact .str _
  | .tup ds, _, c, h => by
    cases h with
    | tup hs ha hl =>
      simp only [D.py, PyData.canLay0] at c ⊢
      exact .tup hs (Reps.dp ds _ c ha)
  | .lst ds, _, c, h => by
    cases h with
    | lst hs hn ha hl =>
      simp only [D.py, PyData.canLay0] at c ⊢
      exact .lst (.inl (.inl hs)) (Reps.dp ds _ c ha)
  | .ro ds, _, c, h => by
    cases h with
    | ro hs ha hl =>
      simp only [D.py, PyData.canLay0] at c ⊢
      exact .lst hs.sqL (Reps.dp ds _ c ha)
  | .ref _, _, c, h => by simp [D.py, PyData.canLay0] at c
  | .raw _, _, c, h => by simp [D.py, PyData.canLay0] at c
  | .clo _ _, _, c, h => by simp [D.py, PyData.canLay0] at c
theorem Reps.dp : ∀ (ds : List D) (vs : List V), PyData.canLayAll0 (D.pys ds) = true → Reps K β H vs ds → DpAll K H vs (D.pys ds)
  | [], _, _, h => by cases h; simp only [D.pys]; exact .nil
  | d :: ds, _, c, h => by
    cases h with
    | cons h1 h2 =>
      simp only [D.pys, PyData.canLayAll0, Bool.and_eq_true] at c ⊢
      exact .cons (Rep.dp d _ c.1 h1) (Reps.dp ds _ c.2 h2)
end
end

/-! ### operators by values -/
def oout {α : Type} (o : Option α) (st : Sto) : Out α := match o with
  | some a => .ok a st
  | none => .bad
@[simp] theorem oout_some {α : Type} (a : α) (st : Sto) : oout (some a) st = .ok a st := rfl
@[simp] theorem oout_none {α : Type} (st : Sto) : oout (none : Option α) st = .bad := rfl
theorem oout_sat {α : Type} {o : Option α} {st : Sto} {P : α → Sto → Prop} {E : Exn → Sto → Prop} (h : (oout o st).sat P E) : ∃ a, o = some a ∧ P a st := by
  cases o with
  | none => exact h.elim
  | some a => exact ⟨a, rfl, h⟩
/-- what a rule by values asks, by data: nothing that is written changes -/
def OpD (K : Zx) (r : R2) (m : D → D → Sto → Option D) : Prop := ∀ (β : Bx) (H : Hp) (st : Sto) (x y : V) (dx dy d : D) (Q : VK), Rep K β H x dx → Rep K β H y dy → StoOk K β H st → m dx dy st = some d →
  (∀ v H', Same H H' → Rep K β H' v d → Q v H') → r x y H Q
def UnD (K : Zx) (r : V → Hp → VK → Prop) (m : D → Sto → Option D) : Prop := ∀ (β : Bx) (H : Hp) (st : Sto) (x : V) (dx d : D) (Q : VK), Rep K β H x dx → StoOk K β H st → m dx st = some d →
  (∀ v H', Same H H' → Rep K β H' v d → Q v H') → r x H Q
def CallD (K : Zx) (r : List V → Hp → VK → Prop) (m : List D → Sto → Option D) : Prop := ∀ (β : Bx) (H : Hp) (st : Sto) (xs : List V) (ds : List D) (d : D) (Q : VK), Reps K β H xs ds → StoOk K β H st → m ds st = some d →
  (∀ v H', Same H H' → Rep K β H' v d → Q v H') → r xs H Q

def gC (d : D) : G D := fun _ st => .ok d st
def gVar (i : Nat) : G D := fun ρ st => match ρ[i]? with
  | some (some d) => .ok d st
  | _ => .bad
def gOp (m : D → D → Sto → Option D) (f g : G D) : G D := fun ρ st => (f ρ st).bind fun d s1 => (g ρ s1).bind fun e s2 => oout (m d e s2) s2
def gUn (m : D → Sto → Option D) (f : G D) : G D := fun ρ st => (f ρ st).bind fun d s1 => oout (m d s1) s1
def aNil : G (List D) := fun _ st => .ok [] st
def aCons (f : G D) (g : G (List D)) : G (List D) := fun ρ st => (f ρ st).bind fun d s1 => (g ρ s1).bind fun ds s2 => .ok (d :: ds) s2
def gCB (m : List D → Sto → Option D) (f : G (List D)) : G D := fun ρ st => (f ρ st).bind fun ds s1 => oout (m ds s1) s1

section
variable {K : Zx} {mg : Str → Option Value} {W : WX} {β : Bx} {H : Hp} {σ : L2.St} {ρ : Env} {st : Sto}
theorem tD_intro {f : G D} {P : D → Sto → Prop} {E : Exn → Sto → Prop} {R : VK} (hρ : RepEnv K β H σ ρ) (hs : StoOk K β H st) (h : (f ρ st).sat P E)
    (hP : ∀ d st', P d st' → ∀ v β' H', Ext β H β' H' → StoOk K β' H' st' → Rep K β' H' v d → R v H') (hE : ∀ x st', E x st' → PostX K mg (fun c d H' => W c d σ H') β H x st') : tD K mg W f σ H R :=
  ⟨β, ρ, st, hρ, hs, h.mono hP hE⟩
theorem tDA_intro {f : G (List D)} {P : List D → Sto → Prop} {E : Exn → Sto → Prop} {R : List V → Hp → Prop} (hρ : RepEnv K β H σ ρ) (hs : StoOk K β H st) (h : (f ρ st).sat P E)
    (hP : ∀ d st', P d st' → ∀ v β' H', Ext β H β' H' → StoOk K β' H' st' → Reps K β' H' v d → R v H') (hE : ∀ x st', E x st' → PostX K mg (fun c d H' => W c d σ H') β H x st') : tDA K mg W f σ H R :=
  ⟨β, ρ, st, hρ, hs, h.mono hP hE⟩
theorem tDT_intro {f : G Bool} {P : Bool → Sto → Prop} {E : Exn → Sto → Prop} {R : Bool → Hp → Prop} (hρ : RepEnv K β H σ ρ) (hs : StoOk K β H st) (h : (f ρ st).sat P E)
    (hP : ∀ d st', P d st' → ∀ β' H', Ext β H β' H' → StoOk K β' H' st' → R d H') (hE : ∀ x st', E x st' → PostX K mg (fun c d H' => W c d σ H') β H x st') : tDT K mg W f σ H R :=
  ⟨β, ρ, st, hρ, hs, h.mono hP hE⟩
end

section
variable {X : Cx} {W : WX} {pos : Pos} {a b e : Expr} {es : List Expr} {f g : G D} {fs : G (List D)}
theorem de_var (i : Nat) {x : Str} (hN : X.N[i]? = some x := by rfl) (hv : Vis X.env.scope x := by first | exact Or.inl rfl | exact Or.inr (Or.inl rfl) | exact Or.inr (Or.inr rfl)) (hd : (x == ("__debug__" : Str)) = false := by decide)
    (hcd : (x == ("__classdict__" : Str)) = false := by decide) : DE X W (.Name x pos) (gVar i) := by
  refine PEmono (pe_var hN hv hd hcd) fun σ H Q h => ?_
  obtain ⟨β, ρ, st, hρ, hs, h⟩ := h
  unfold gVar at h
  split at h
  · rename_i d hd
    obtain ⟨v, hv, r⟩ := hρ.2 i d hd
    exact ⟨v, hv, h v β H (Ext.refl β H) hs r⟩
  · exact h.elim
theorem de_const {e : Expr} {v : V} {d : D} (h : PE X e (tC v)) (r : ∀ β H, Rep (zOf X) β H v d) : DE X W e (gC d) := by
  refine PEmono h fun σ H Q h => ?_
  obtain ⟨β, ρ, st, hρ, hs, h⟩ := h
  exact h v β H (Ext.refl β H) hs (r β H)
theorem de_int {i j} : DE X W (.Constant (.int i) j pos) (gC (.int i)) := de_const pe_int fun _ _ => .int i
theorem de_bl {b j} : DE X W (.Constant (.bool b) j pos) (gC (.bl b)) := de_const pe_bl fun _ _ => .bl b
theorem de_non {j} : DE X W (.Constant .none j pos) (gC .non) := de_const pe_non fun _ _ => .non
theorem de_str {x j} : DE X W (.Constant (.str x) j pos) (gC (.str x)) := de_const pe_str fun _ _ => .str x
theorem de_glob {x : Str} {v : V} {u : Value} {d : D} (hg : Gl X x) (hm : X.mg x = some u) (r : RelV v u) (rd : ∀ β H, Rep (zOf X) β H v d) (hd : (x == ("__debug__" : Str)) = false := by decide) : DE X W (.Name x pos) (gC d) := de_const (pe_glob hg hm r hd) rd
theorem de_type {x : Str} {T : String} (hg : Gl X x) (hm : X.mg x = none) (hv : bootBuiltins x = some (.type T)) (hn : x ≠ "__name__" := by decide) (hd : (x == ("__debug__" : Str)) = false := by decide) : DE X W (.Name x pos) (gC (.raw (.ty T))) :=
  de_const (pe_bltn hg hm hv (v := .ty T) rfl hn hd) fun _ _ => .raw _
theorem de_op {op : Operator} {r : R2} {m : D → D → Sto → Option D} (ho : OpR X (binaryOp op) r) (hm : OpD (zOf X) r m) (ha : DE X W a f) (hb : DE X W b g) : DE X W (.BinOp a op b pos) (gOp m f g) := by
  refine PEmono (pe_op ho ha hb) fun σ H Q h => ?_
  obtain ⟨β, ρ, st, hρ, hs, h⟩ := h
  refine tD_intro hρ hs (Out.sat_bind h) (fun d s1 h1 v β1 H1 e1 S1 r1 => ?_) fun _ _ q => q
  refine tD_intro (hρ.ext e1) S1 (Out.sat_bind h1) (fun d2 s2 h2 v2 β2 H2 e2 S2 r2 => ?_) fun _ _ q => q.ext e1
  obtain ⟨d3, q, p⟩ := oout_sat h2
  exact hm β2 H2 s2 v v2 d d2 d3 Q (Rep.ext e2 _ _ r1) r2 S2 q fun w' H' s' r' => p w' β2 H' ((e1.trans e2).trans (Ext.same s')) (S2.same s') r'
theorem de_cmp {op : CmpOp} {r : R2} {m : D → D → Sto → Option D} (ho : OpR X (compareOp op) r) (hm : OpD (zOf X) r m) (ha : DE X W a f) (hb : DE X W b g) (hb' : behindInMarks op b = false := by rfl) : DE X W (.Compare a [op] [b] pos) (gOp m f g) := by
  refine PEmono (pe_cmpR ho ha hb hb') fun σ H Q h => ?_
  obtain ⟨β, ρ, st, hρ, hs, h⟩ := h
  refine tD_intro hρ hs (Out.sat_bind h) (fun d s1 h1 v β1 H1 e1 S1 r1 => ?_) fun _ _ q => q
  refine tD_intro (hρ.ext e1) S1 (Out.sat_bind h1) (fun d2 s2 h2 v2 β2 H2 e2 S2 r2 => ?_) fun _ _ q => q.ext e1
  obtain ⟨d3, q, p⟩ := oout_sat h2
  exact hm β2 H2 s2 v v2 d d2 d3 Q (Rep.ext e2 _ _ r1) r2 S2 q fun w' H' s' r' => p w' β2 H' ((e1.trans e2).trans (Ext.same s')) (S2.same s') r'
theorem de_ix {r : R2} {m : D → D → Sto → Option D} (ho : IxR X r) (hm : OpD (zOf X) r m) (ha : DE X W a f) (hb : DE X W b g) (hs' : PlainIx b := by exact fun _ _ => rfl) : DE X W (.Subscript a b pos) (gOp m f g) := by
  refine PEmono (pe_ix ho ha hb hs') fun σ H Q h => ?_
  obtain ⟨β, ρ, st, hρ, hs, h⟩ := h
  refine tD_intro hρ hs (Out.sat_bind h) (fun d s1 h1 v β1 H1 e1 S1 r1 => ?_) fun _ _ q => q
  refine tD_intro (hρ.ext e1) S1 (Out.sat_bind h1) (fun d2 s2 h2 v2 β2 H2 e2 S2 r2 => ?_) fun _ _ q => q.ext e1
  obtain ⟨d3, q, p⟩ := oout_sat h2
  exact hm β2 H2 s2 v v2 d d2 d3 Q (Rep.ext e2 _ _ r1) r2 S2 q fun w' H' s' r' => p w' β2 H' ((e1.trans e2).trans (Ext.same s')) (S2.same s') r'
theorem de_un {op : UnaryOp} {r : V → Hp → VK → Prop} {m : D → Sto → Option D} (ho : UnR X (unaryOp op) r) (hm : UnD (zOf X) r m) (ha : DE X W a f) : DE X W (.UnaryOp op a pos) (gUn m f) := by
  refine PEmono (pe_un ho ha) fun σ H Q h => ?_
  obtain ⟨β, ρ, st, hρ, hs, h⟩ := h
  refine tD_intro hρ hs (Out.sat_bind h) (fun d s1 h1 v β1 H1 e1 S1 r1 => ?_) fun _ _ q => q
  obtain ⟨d3, q, p⟩ := oout_sat h1
  exact hm β1 H1 s1 v d d3 Q r1 S1 q fun w' H' s' r' => p w' β1 H' (e1.trans (Ext.same s')) (S1.same s') r'
theorem da_nil : DA X W [] aNil := by
  refine PAmono pa_nil fun σ H Q h => ?_
  obtain ⟨β, ρ, st, hρ, hs, h⟩ := h
  exact h [] β H (Ext.refl β H) hs .nil
theorem da_cons (ha : DE X W e f) (hr : DA X W es fs) (hs : starEach (e :: es) X.env = (false, eval e X.env) :: starEach es X.env := by rfl) : DA X W (e :: es) (aCons f fs) := by
  refine PAmono (pa_cons ha hr hs) fun σ H Q h => ?_
  obtain ⟨β, ρ, st, hρ, hs, h⟩ := h
  refine tD_intro hρ hs (Out.sat_bind h) (fun d s1 h1 v β1 H1 e1 S1 r1 => ?_) fun _ _ q => q
  refine tDA_intro (hρ.ext e1) S1 (Out.sat_bind h1) (fun d2 s2 h2 v2 β2 H2 e2 S2 r2 => ?_) fun _ _ q => q.ext e1
  exact h2 (v :: v2) β2 H2 (e1.trans e2) S2 (.cons (Rep.ext e2 _ _ r1) r2)
theorem de_callB {x : Str} {p : Pos} {id : String} {r : List V → Hp → VK → Prop} {m : List D → Sto → Option D} (hc : CallR X (.builtin id) r) (hm : CallD (zOf X) r m) (hg : Gl X x) (hmg : X.mg x = none) (hv : bootBuiltins x = some (.builtin id)) (ha : DA X W (e :: es) fs) (hn : x ≠ "__name__" := by decide) (hdb : (x == ("__debug__" : Str)) = false := by decide)
    (he : starEach (e :: es) X.env = (false, eval e X.env) :: starEach es X.env := by rfl) (hpl : (backTo pos (starEach es X.env)).any (·.1) = false := by rfl) : DE X W (.Call (.Name x p) (e :: es) [] pos) (gCB m fs) := by
  refine PEmono (pe_callB hc hg hmg hv ha hn hdb he hpl) fun σ H Q h => ?_
  obtain ⟨β, ρ, st, hρ, hs, h⟩ := h
  refine tDA_intro hρ hs (Out.sat_bind h) (fun d s1 h1 v β1 H1 e1 S1 r1 => ?_) fun _ _ q => q
  obtain ⟨d3, q, p⟩ := oout_sat h1
  exact hm β1 H1 s1 v d d3 Q r1 S1 q fun w' H' s' r' => p w' β1 H' (e1.trans (Ext.same s')) (S1.same s') r'
theorem de_callTy {x : Str} {p : Pos} {T : String} {r : List V → Hp → VK → Prop} {m : List D → Sto → Option D} (hc : CallR X (.type T) r) (hm : CallD (zOf X) r m) (hg : Gl X x) (hmg : X.mg x = none) (hv : bootBuiltins x = some (.type T)) (ha : DA X W (e :: es) fs) (hn : x ≠ "__name__" := by decide) (hdb : (x == ("__debug__" : Str)) = false := by decide)
    (he : starEach (e :: es) X.env = (false, eval e X.env) :: starEach es X.env := by rfl) (hpl : (backTo pos (starEach es X.env)).any (·.1) = false := by rfl) : DE X W (.Call (.Name x p) (e :: es) [] pos) (gCB m fs) := by
  refine PEmono (pe_callTy hc hg hmg hv ha hn hdb he hpl) fun σ H Q h => ?_
  obtain ⟨β, ρ, st, hρ, hs, h⟩ := h
  refine tDA_intro hρ hs (Out.sat_bind h) (fun d s1 h1 v β1 H1 e1 S1 r1 => ?_) fun _ _ q => q
  obtain ⟨d3, q, p⟩ := oout_sat h1
  exact hm β1 H1 s1 v d d3 Q r1 S1 q fun w' H' s' r' => p w' β1 H' (e1.trans (Ext.same s')) (S1.same s') r'

/-! ### displays: tuples, lists that are never written, lists that are -/
def gTupD (f : G (List D)) : G D := fun ρ st => (f ρ st).bind fun ds s1 => if ds.length ≤ 1000 then .ok (.tup ds) s1 else .bad
def gLstD (f : G (List D)) : G D := fun ρ st => (f ρ st).bind fun ds s1 => if ds.length ≤ 1000 then .ok (.lst ds) s1 else .bad
def gLstM (f : G (List D)) : G D := fun ρ st => (f ρ st).bind fun ds s1 => if ds.length ≤ 1000 then .ok (.ref s1.length) (s1 ++ [.lst ds]) else .bad
theorem le1000 {n : Nat} (h : n ≤ 1000) : n ≤ sizeLine := Nat.le_of_lt (small1000 h)
theorem de_tup {x1} (h : DA X W es fs) : DE X W (.Tuple es x1 pos) (gTupD fs) := by
  refine PEmono (pe_tup h) fun σ H Q h => ?_
  obtain ⟨β, ρ, st, hρ, hs, h⟩ := h
  refine tDA_intro hρ hs (Out.sat_bind h) (fun d s1 h1 v β1 H1 e1 S1 r1 => ?_) fun _ _ q => q
  split at h1
  · rename_i hz
    have hl := r1.length
    refine ⟨by rw [hl]; exact le1000 hz, fun p hp => ?_⟩
    exact h1 (.ref p) β1 _ (e1.trans (Ext.new hp)) (S1.fresh hp) (.tup (.inl (.inl upd_same)) (Reps.ext (Ext.new hp) _ _ r1) (le1000 hz))
  · exact h1.elim
theorem de_lst (h : DA X W es fs) : DE X W (.List es pos) (gLstD fs) := by
  refine PEmono (pe_lst h) fun σ H Q h => ?_
  obtain ⟨β, ρ, st, hρ, hs, h⟩ := h
  refine tDA_intro hρ hs (Out.sat_bind h) (fun d s1 h1 v β1 H1 e1 S1 r1 => ?_) fun _ _ q => q
  split at h1
  · rename_i hz
    have hl := r1.length
    refine ⟨by rw [hl]; exact le1000 hz, fun p hp => ?_⟩
    exact h1 (.ref p) β1 _ (e1.trans (Ext.new hp)) (S1.fresh hp) (.lst upd_same (S1.nmem hp) (Reps.ext (Ext.new hp) _ _ r1) (le1000 hz))
  · exact h1.elim
/-- a new written thing at p -/
def Bx.add (β : Bx) (p : Addr) : Bx := ⟨β.lo ++ [p], β.pv⟩
theorem Ext.grow {β : Bx} {H : Hp} {p : Addr} {o : HO} (hp : H p = none) : Ext β H (β.add p) (upd H p o) :=
  ⟨⟨[p], rfl, fun q hq => by rw [List.mem_singleton.mp hq]; exact Free.none hp⟩, rfl, fun b u _ h _ => same_new hp _ _ h, fun _ _ h => same_new hp _ _ h, fun _ _ _ h => same_new hp _ _ h, fun _ u h n => ⟨u, same_new hp _ _ h, n⟩, fun _ _ h => same_new hp _ _ h⟩
theorem StoOk.grow {K : Zx} {β : Bx} {H : Hp} {st : Sto} {p : Addr} {o : HO} {so : SO} (S : StoOk K β H st) (hp : H p = none) (r : SORel K (β.add p) (upd H p o) p so) : StoOk K (β.add p) (upd H p o) (st ++ [so]) := by
  have e := Ext.grow (β := β) (o := o) hp
  refine ⟨by simp [Bx.add, S.len], ?_, fun n a u h1 h2 => ?_, fun q hq => let ⟨u, hu, n⟩ := S.priv q hq; ⟨u, same_new hp _ _ hu, n⟩⟩
  · exact List.nodup_append.mpr ⟨S.nd, by simp, fun x hx y hy => by rw [List.mem_singleton.mp hy]; exact fun z => (S.nmem hp).1 (z ▸ hx)⟩
  · have h1 : (β.lo ++ [p])[n]? = Option.some a := h1
    by_cases hn : n < β.lo.length
    · rw [List.getElem?_append_left hn] at h1
      rw [List.getElem?_append_left (by rw [← S.len]; exact hn)] at h2
      have q := S.obj n a u h1 h2
      exact q.move e.mv fun _ z => same_new hp _ _ z
    · have hn' : n = β.lo.length := by
        have := (List.getElem?_eq_some_iff.mp h1).1
        simp at this
        omega
      subst hn'
      rw [List.getElem?_append_right (Nat.le_refl _)] at h1
      rw [S.len, List.getElem?_append_right (Nat.le_refl _)] at h2
      simp at h1 h2
      subst h1 h2
      exact r
theorem de_lstM (h : DA X W es fs) : DE X W (.List es pos) (gLstM fs) := by
  refine PEmono (pe_lst h) fun σ H Q h => ?_
  obtain ⟨β, ρ, st, hρ, hs, h⟩ := h
  refine tDA_intro hρ hs (Out.sat_bind h) (fun d s1 h1 v β1 H1 e1 S1 r1 => ?_) fun _ _ q => q
  split at h1
  · rename_i hz
    have hl := r1.length
    refine ⟨by rw [hl]; exact le1000 hz, fun p hp => ?_⟩
    refine h1 (.ref p) (β1.add p) _ (e1.trans (Ext.grow hp)) (S1.grow hp ⟨v, upd_same, Reps.ext (Ext.grow hp) _ _ r1⟩) (.ref ?_)
    rw [← S1.len]
    simp [Bx.add]
  · exact h1.elim
end
end DL

set_option Elab.async false
set_option linter.all false
set_option maxRecDepth 100000
set_option maxHeartbeats 2000000
namespace DL
open PySem PySem.Spec L2
open PyProof.Rows hiding St
abbrev LIM : Nat := 1000000
theorem leLIM {n : Nat} (h : n ≤ LIM) : n ≤ sizeLine := by rw [sizeLine_eq]; exact Nat.le_trans h (by decide)

/-! ### the operators by data -/
def mAdd : D → D → Sto → Option D
  | .int i, .int j, _ => some (.int (i + j))
  | .str x, .str y, _ => if x.length + y.length ≤ LIM then some (.str (x ++ y)) else none
  | .tup a, .tup b, _ => if a.length + b.length ≤ LIM then some (.tup (a ++ b)) else none
  | .lst a, .lst b, _ => if a.length + b.length ≤ LIM then some (.lst (a ++ b)) else none
  | _, _, _ => none
def mSub : D → D → Sto → Option D
  | .int i, .int j, _ => some (.int (i - j))
  | _, _, _ => none
def mMul : D → D → Sto → Option D
  | .int i, .int j, _ => if -(2 ^ 64) < j ∧ j < 2 ^ 64 then some (.int (i * j)) else none
  | .lst a, .int k, _ => if 0 ≤ k ∧ k ≤ 1000 ∧ a.length ≤ 1000 then some (.lst (List.replicate k.toNat a).flatten) else none
  | _, _, _ => none
def mMod : D → D → Sto → Option D
  | .int i, .int j, _ => if 0 < j then some (.int (i % j)) else none
  | _, _, _ => none
def mFdiv : D → D → Sto → Option D
  | .int i, .int j, _ => if 0 < j ∧ j < 1073741824 then some (.int (i / j)) else none
  | _, _, _ => none
def mPow : D → D → Sto → Option D
  | .int i, .int j, _ => if 0 ≤ j ∧ j ≤ 1000000 ∧ i.natAbs < 2 ^ 64 then some (.int (i ^ j.toNat)) else none
  | _, _, _ => none
def mLt : D → D → Sto → Option D
  | .int i, .int j, _ => some (.bl (decide (i < j)))
  | _, _, _ => none
def mLe : D → D → Sto → Option D
  | .int i, .int j, _ => some (.bl (decide (i ≤ j)))
  | _, _, _ => none
def mGt : D → D → Sto → Option D
  | .int i, .int j, _ => some (.bl (decide (j < i)))
  | _, _, _ => none
def mGe : D → D → Sto → Option D
  | .int i, .int j, _ => some (.bl (decide (j ≤ i)))
  | _, _, _ => none
def eqD (x y : D) : Bool := PyData.eqv x.py y.py
def okD (x : D) : Bool := SeqAt.shaped x.py
def mEq : D → D → Sto → Option D := fun x y _ => if okD x && okD y then some (.bl (eqD x y)) else none
def mNe : D → D → Sto → Option D := fun x y _ => if okD x && okD y then some (.bl (!eqD x y)) else none
def mIs : D → D → Sto → Option D
  | x, .non, _ => match x with
    | .raw _ => none
    | .non => some (.bl true)
    | _ => some (.bl false)
  | .bl a, .bl b, _ => some (.bl (decide (a = b)))
  | _, _, _ => none
def mIsNot : D → D → Sto → Option D
  | x, .non, _ => match x with
    | .raw _ => none
    | .non => some (.bl false)
    | _ => some (.bl true)
  | .bl a, .bl b, _ => some (.bl (!decide (a = b)))
  | _, _, _ => none
def inStr (x y : Str) : Bool := !(Builtin.Str.occurrences y x 0 y.length 1).isEmpty
def mIn (neg : Bool) : D → D → Sto → Option D
  | .str x, .str y, _ => some (.bl (if neg then !inStr x y else inStr x y))
  | x, .tup l, _ => if okD x && okD (.tup l) then some (.bl (if neg then !l.any fun z => eqD z x else l.any fun z => eqD z x)) else none
  | x, .lst l, _ => if okD x && okD (.lst l) then some (.bl (if neg then !l.any fun z => eqD z x else l.any fun z => eqD z x)) else none
  | x, .ro l, _ => if okD x && okD (.ro l) then some (.bl (if neg then !l.any fun z => eqD z x else l.any fun z => eqD z x)) else none
  | _, _, _ => none
theorem pys_map : ∀ l : List D, D.pys l = l.map D.py
  | [] => by simp [D.pys]
  | d :: l => by simp [D.pys, pys_map l]

section
variable {X : Cx} {K : Zx}
/-! #### + -/
abbrev rAddD (K : PySem.W.Frag) : R2 := fun x y H Q => rI0 (fun i j => .int (i + j)) x y H Q ∨ (fun x y H Q => (∃ i j, x = .str i ∧ y = .str j ∧ i.length + j.length ≤ sizeLine ∧ Q (.str (i ++ j)) H) ∨ (fun x y H Q => rCatA K x y H Q ∨ rCat x y H Q) x y H Q) x y H Q
theorem or_add : OpR X (binaryOp .Add) (rAddD X.K) := op_add.or (op_add_str.or (op_catA.or op_cat))
theorem od_add : OpD K (rAddD K) mAdd := by
  intro β H st x y dx dy d Q rx ry S e q
  cases dx <;> cases dy <;> simp only [mAdd, Option.some.injEq, reduceCtorEq] at e
  case int.int i j =>
    cases rx; cases ry; subst e
    exact .inl ⟨_, _, rfl, rfl, q _ _ (Same.refl H) (.int _)⟩
  case str.str a b =>
    cases rx; cases ry
    split at e
    · rename_i hz
      have e := Option.some.inj e
      subst e
      exact .inr (.inl ⟨_, _, rfl, rfl, leLIM hz, q _ _ (Same.refl H) (.str _)⟩)
    · cases e
  case tup.tup a b =>
    cases rx with
    | tup h1 h2 h3 =>
      cases ry with
      | tup g1 g2 g3 =>
        rename_i p xs p' ys
        split at e
        · rename_i hz
          have e := Option.some.inj e
          subst e
          have hl : xs.length + ys.length ≤ LIM := by rw [h2.length, g2.length]; exact hz
          refine .inr (.inr (.inl ⟨_, _, _, _, rfl, rfl, h1, g1, leLIM hl, fun e0 => ?_, fun e0 e1 => ?_, fun e0 e1 p hp => ?_⟩))
          · subst e0
            cases h2
            exact q _ _ (Same.refl H) (.tup g1 g2 g3)
          · subst e1
            cases g2
            simp only [List.append_nil] at q
            exact q _ _ (Same.refl H) (.tup h1 h2 h3)
          · exact q _ _ (same_new hp) (.tup (.inl (.inl upd_same)) (Reps.ext (Ext.new hp) _ _ (h2.append g2)) (by rw [List.length_append]; exact leLIM hz))
        · cases e
  case lst.lst a b =>
    cases rx with
    | lst h1 hn h2 h3 =>
      cases ry with
      | lst g1 gn g2 g3 =>
        rename_i p xs p' ys
        split at e
        · rename_i hz
          have e := Option.some.inj e
          subst e
          have hl : xs.length + ys.length ≤ LIM := by rw [h2.length, g2.length]; exact hz
          refine .inr (.inr (.inr ⟨_, _, _, _, rfl, rfl, h1, g1, leLIM hl, fun p hp => ?_⟩))
          exact q _ _ (same_new hp) (.lst upd_same (S.nmem hp) (Reps.ext (Ext.new hp) _ _ (h2.append g2)) (by rw [List.length_append]; exact leLIM hz))
        · cases e
/-! #### ints -/
theorem od_sub : OpD K (rI0 fun i j => .int (i - j)) mSub := by
  intro β H st x y dx dy d Q rx ry S e q
  cases dx <;> cases dy <;> simp only [mSub, Option.some.injEq, reduceCtorEq] at e
  cases rx; cases ry; subst e
  exact ⟨_, _, rfl, rfl, q _ _ (Same.refl H) (.int _)⟩
theorem od_mod : OpD K (rI (fun _ j => 0 < j) fun i j => .int (i % j)) mMod := by
  intro β H st x y dx dy d Q rx ry S e q
  cases dx <;> cases dy <;> simp only [mMod, Option.some.injEq, reduceCtorEq] at e
  split at e
  · rename_i hz
    have e := Option.some.inj e
    cases rx; cases ry; subst e
    exact ⟨_, _, rfl, rfl, hz, q _ _ (Same.refl H) (.int _)⟩
  · cases e
theorem od_fdiv : OpD K (rI CDiv fun i j => .int (i / j)) mFdiv := by
  intro β H st x y dx dy d Q rx ry S e q
  cases dx <;> cases dy <;> simp only [mFdiv, Option.some.injEq, reduceCtorEq] at e
  split at e
  · rename_i hz
    have e := Option.some.inj e
    cases rx; cases ry; subst e
    exact ⟨_, _, rfl, rfl, hz, q _ _ (Same.refl H) (.int _)⟩
  · cases e
theorem od_pow : OpD K (rI CPow fun i j => .int (i ^ j.toNat)) mPow := by
  intro β H st x y dx dy d Q rx ry S e q
  cases dx <;> cases dy <;> simp only [mPow, Option.some.injEq, reduceCtorEq] at e
  split at e
  · rename_i hz
    have e := Option.some.inj e
    cases rx; cases ry; subst e
    exact ⟨_, _, rfl, rfl, hz, q _ _ (Same.refl H) (.int _)⟩
  · cases e
abbrev rMulD : R2 := fun x y H Q => rI CMul (fun i j => .int (i * j)) x y H Q ∨ rRep x y H Q
theorem or_mul : OpR X (binaryOp .Mult) rMulD := op_mul.or op_rep
theorem lt_od {r : R2} {m : D → D → Sto → Option D} {p : Int → Int → Bool} (hm : ∀ x y st d, m x y st = some d → ∃ i j, x = .int i ∧ y = .int j ∧ d = .bl (p i j)) : OpD K (rI0 fun i j => .bl (p i j)) m := by
  intro β H st x y dx dy d Q rx ry S e q
  obtain ⟨i, j, rfl, rfl, rfl⟩ := hm _ _ _ _ e
  cases rx; cases ry
  exact ⟨_, _, rfl, rfl, q _ _ (Same.refl H) (.bl _)⟩
theorem od_lt : OpD K (rI0 fun i j => .bl (decide (i < j))) mLt := lt_od (r := rI0 fun i j => .bl (decide (i < j))) fun x y st d e => by
  cases x <;> cases y <;> simp only [mLt, Option.some.injEq, reduceCtorEq] at e
  exact ⟨_, _, rfl, rfl, e.symm⟩
theorem od_le : OpD K (rI0 fun i j => .bl (decide (i ≤ j))) mLe := lt_od (r := rI0 fun i j => .bl (decide (i ≤ j))) fun x y st d e => by
  cases x <;> cases y <;> simp only [mLe, Option.some.injEq, reduceCtorEq] at e
  exact ⟨_, _, rfl, rfl, e.symm⟩
theorem od_gt : OpD K (rI0 fun i j => .bl (decide (j < i))) mGt := lt_od (r := rI0 fun i j => .bl (decide (j < i))) fun x y st d e => by
  cases x <;> cases y <;> simp only [mGt, Option.some.injEq, reduceCtorEq] at e
  exact ⟨_, _, rfl, rfl, e.symm⟩
theorem od_ge : OpD K (rI0 fun i j => .bl (decide (j ≤ i))) mGe := lt_od (r := rI0 fun i j => .bl (decide (j ≤ i))) fun x y st d e => by
  cases x <;> cases y <;> simp only [mGe, Option.some.injEq, reduceCtorEq] at e
  exact ⟨_, _, rfl, rfl, e.symm⟩
theorem canLay_of_ok {x : D} (h : okD x = true) : x.py.canLay0 = true := SeqAt.canLay_of_shaped h
theorem od_eq : OpD K (rEqD K) mEq := by
  intro β H st x y dx dy d Q rx ry S e q
  unfold mEq at e
  split at e
  · rename_i hz
    have e := Option.some.inj e
    subst e
    rw [Bool.and_eq_true] at hz
    exact ⟨dx.py, dy.py, Rep.dp _ _ (canLay_of_ok hz.1) rx, Rep.dp _ _ (canLay_of_ok hz.2) ry, hz.1, hz.2, q _ _ (Same.refl H) (.bl _)⟩
  · cases e
theorem od_ne : OpD K (rNeD K) mNe := by
  intro β H st x y dx dy d Q rx ry S e q
  unfold mNe at e
  split at e
  · rename_i hz
    have e := Option.some.inj e
    subst e
    rw [Bool.and_eq_true] at hz
    exact ⟨dx.py, dy.py, Rep.dp _ _ (canLay_of_ok hz.1) rx, Rep.dp _ _ (canLay_of_ok hz.2) ry, hz.1, hz.2, q _ _ (Same.refl H) (.bl _)⟩
  · cases e
/-! #### is -/
def notNon : V → Bool
  | .non => false
  | _ => true
abbrev rIsD : R2 := fun x y H Q => (y = .non ∧ Q (.bl (decide (x = .non))) H) ∨ rIsB x y H Q
abbrev rIsND : R2 := fun x y H Q => (y = .non ∧ Q (.bl (!decide (x = .non))) H) ∨ rNotB x y H Q
theorem or_is : OpR X (compareOp .Is) rIsD := op_isN.or op_isBl
theorem or_isnot : OpR X (compareOp .IsNot) rIsND := op_notN.or op_notBl
theorem od_is : OpD K rIsD mIs := by
  intro β H st x y dx dy d Q rx ry S e q
  cases dy with
  | non =>
    cases ry
    cases dx <;> simp only [mIs, Option.some.injEq, reduceCtorEq] at e
    all_goals (subst e; cases rx; exact .inl ⟨rfl, q _ _ (Same.refl H) (.bl _)⟩)
  | bl b =>
    cases dx <;> simp only [mIs, Option.some.injEq, reduceCtorEq] at e
    cases rx; cases ry
    subst e
    exact .inr ⟨_, _, rfl, rfl, q _ _ (Same.refl H) (.bl _)⟩
  | _ => cases dx <;> simp only [mIs, reduceCtorEq] at e
theorem od_isnot : OpD K rIsND mIsNot := by
  intro β H st x y dx dy d Q rx ry S e q
  cases dy with
  | non =>
    cases ry
    cases dx <;> simp only [mIsNot, Option.some.injEq, reduceCtorEq] at e
    all_goals (subst e; cases rx; exact .inl ⟨rfl, q _ _ (Same.refl H) (.bl _)⟩)
  | bl b =>
    cases dx <;> simp only [mIsNot, Option.some.injEq, reduceCtorEq] at e
    cases rx; cases ry
    subst e
    exact .inr ⟨_, _, rfl, rfl, q _ _ (Same.refl H) (.bl _)⟩
  | _ => cases dx <;> simp only [mIsNot, reduceCtorEq] at e
/-! #### in -/
def rInTD (K : PySem.W.Frag) (neg : Bool) : R2 := fun x y H Q => ∃ d ds, Dp K H x d ∧ Dp K H y (.tuple ds) ∧ SeqAt.shaped d = true ∧ SeqAt.shaped (.tuple ds) = true ∧ Q (.bl (if neg then !ds.any fun z => PyData.eqv z d else ds.any fun z => PyData.eqv z d)) H
theorem room_in_tup {A : Around} {xs : List PyData} {d : PyData} (h : SeqAt.shaped d = true) (hu : A.units + 65 < cLine) : A.units + 1 + min (PyData.depthAll xs) d.depth < cLine := by
  have h1 := SeqAt.depth_of_shaped h
  have h2 : min (PyData.depthAll xs) d.depth ≤ d.depth := Nat.min_le_right _ _
  omega
theorem op_inTD (hu : X.A.units + 65 < cLine) : OpR X (compareOp .In) (rInTD X.K false) := by
  intro pins s σ H x y v u Q I rx ry h
  obtain ⟨d, ds, hd, he, sd, se, q⟩ := h
  obtain ⟨as, r1⟩ := Dp.reads I d x v hd rx
  obtain ⟨bs, r2⟩ := Dp.reads I (.tuple ds) y u he ry
  exact SeqAt.in_tuple_reads r2 r1 (SeqAt.canLay_of_shaped se) (SeqAt.canLay_of_shaped sd) (room_in_tup sd hu) ⟨.bl _, H, I, rfl, q⟩
theorem op_notInTD (hu : X.A.units + 65 < cLine) : OpR X (compareOp .NotIn) (rInTD X.K true) := by
  intro pins s σ H x y v u Q I rx ry h
  obtain ⟨d, ds, hd, he, sd, se, q⟩ := h
  obtain ⟨as, r1⟩ := Dp.reads I d x v hd rx
  obtain ⟨bs, r2⟩ := Dp.reads I (.tuple ds) y u he ry
  exact SeqAt.notIn_tuple_reads r2 r1 (SeqAt.canLay_of_shaped se) (SeqAt.canLay_of_shaped sd) (room_in_tup sd hu) ⟨.bl _, H, I, rfl, q⟩
abbrev rInDD (K : PySem.W.Frag) (neg : Bool) : R2 := fun x y H Q => (∃ i j, x = .str i ∧ y = .str j ∧ Q (.bl (if neg then !inStr i j else inStr i j)) H) ∨ (fun x y H Q => rInTD K neg x y H Q ∨
  (∃ d ds, Dp K H x d ∧ Dp K H y (.list ds) ∧ SeqAt.shaped d = true ∧ SeqAt.shaped (.list ds) = true ∧ Q (.bl (if neg then !ds.any fun z => PyData.eqv z d else ds.any fun z => PyData.eqv z d)) H)) x y H Q
theorem or_in (hu : X.A.units + 65 < cLine) : OpR X (compareOp .In) (rInDD X.K false) := op_in_str.or ((op_inTD hu).or (op_inD hu))
theorem or_notin (hu : X.A.units + 65 < cLine) : OpR X (compareOp .NotIn) (rInDD X.K true) := op_notin_str.or ((op_notInTD hu).or (op_notInD hu))
theorem any_py (l : List D) (x : D) : (D.pys l).any (fun z => PyData.eqv z x.py) = l.any fun z => eqD z x := by
  rw [pys_map, List.any_map]
  rfl
theorem od_in (neg : Bool) : OpD K (rInDD K neg) (mIn neg) := by
  intro β H st x y dx dy d Q rx ry S e q
  have seq : ∀ (l : List D) (c : PyData), c = .tuple (D.pys l) ∨ c = .list (D.pys l) → Dp K H y c → SeqAt.shaped c = true → okD dx = true → d = .bl (if neg then !l.any fun z => eqD z dx else l.any fun z => eqD z dx) → rInDD K neg x y H Q := fun l c hc hy ho hx ed => by
    subst ed
    rcases hc with rfl | rfl
    · exact .inr (.inl ⟨dx.py, D.pys l, Rep.dp _ _ (canLay_of_ok hx) rx, hy, hx, ho, by rw [any_py]; exact q _ _ (Same.refl H) (.bl _)⟩)
    · exact .inr (.inr ⟨dx.py, D.pys l, Rep.dp _ _ (canLay_of_ok hx) rx, hy, hx, ho, by rw [any_py]; exact q _ _ (Same.refl H) (.bl _)⟩)
  cases dy with
  | str b =>
    cases dx <;> simp only [mIn, Option.some.injEq, reduceCtorEq] at e
    cases rx; cases ry; subst e
    exact .inl ⟨_, _, rfl, rfl, q _ _ (Same.refl H) (.bl _)⟩
  | tup l =>
    have e : (if okD dx && okD (.tup l) then some (D.bl (if neg then !l.any fun z => eqD z dx else l.any fun z => eqD z dx)) else none) = some d := by
      cases dx <;> exact e
    split at e
    · rename_i hz
      rw [Bool.and_eq_true] at hz
      have c := Rep.dp _ _ (canLay_of_ok hz.2) ry
      simp only [D.py] at c
      have o2 := hz.2
      simp only [okD, D.py] at o2
      exact seq l _ (.inl rfl) c o2 hz.1 (Option.some.inj e).symm
    · cases e
  | lst l =>
    have e : (if okD dx && okD (.lst l) then some (D.bl (if neg then !l.any fun z => eqD z dx else l.any fun z => eqD z dx)) else none) = some d := by
      cases dx <;> exact e
    split at e
    · rename_i hz
      rw [Bool.and_eq_true] at hz
      have c := Rep.dp _ _ (canLay_of_ok hz.2) ry
      simp only [D.py] at c
      have o2 := hz.2
      simp only [okD, D.py] at o2
      exact seq l _ (.inr rfl) c o2 hz.1 (Option.some.inj e).symm
    · cases e
  | ro l =>
    have e : (if okD dx && okD (.ro l) then some (D.bl (if neg then !l.any fun z => eqD z dx else l.any fun z => eqD z dx)) else none) = some d := by
      cases dx <;> exact e
    split at e
    · rename_i hz
      rw [Bool.and_eq_true] at hz
      have c := Rep.dp _ _ (canLay_of_ok hz.2) ry
      simp only [D.py] at c
      have o2 := hz.2
      simp only [okD, D.py] at o2
      exact seq l _ (.inr rfl) c o2 hz.1 (Option.some.inj e).symm
    · cases e
  | _ => cases dx <;> simp only [mIn, reduceCtorEq] at e
end
end DL

set_option Elab.async false
set_option linter.all false
set_option maxRecDepth 100000
set_option maxHeartbeats 2000000
namespace DL
open PySem PySem.Spec L2
open PyProof.Rows hiding St

theorem reps_flatten {K : Zx} {β : Bx} {H : Hp} {xs : List V} {ds : List D} (r : Reps K β H xs ds) : ∀ k : Nat, Reps K β H (List.replicate k xs).flatten (List.replicate k ds).flatten
  | 0 => .nil
  | k + 1 => by
    rw [List.replicate_succ, List.replicate_succ, List.flatten_cons, List.flatten_cons]
    exact r.append (reps_flatten r k)
theorem len_flatten {α : Type} (xs : List α) : ∀ k : Nat, (List.replicate k xs).flatten.length = xs.length * k
  | 0 => by simp
  | k + 1 => by rw [List.replicate_succ, List.flatten_cons, List.length_append, len_flatten xs k, Nat.mul_succ, Nat.add_comm]
theorem od_mul {K : Zx} : OpD K rMulD mMul := by
  intro β H st x y dx dy d Q rx ry S e q
  cases dx <;> cases dy <;> simp only [mMul, Option.some.injEq, reduceCtorEq] at e
  case int.int i j =>
    split at e
    · rename_i hz
      have e := Option.some.inj e
      cases rx; cases ry; subst e
      exact .inl ⟨_, _, rfl, rfl, .inr hz, q _ _ (Same.refl H) (.int _)⟩
    · cases e
  case lst.int a k =>
    split at e
    · rename_i hz
      have e := Option.some.inj e
      cases ry; subst e
      cases rx with
      | lst h1 hn h2 h3 =>
        rename_i p xs
        have hl := h2.length
        have hk : k.toNat ≤ 1000 := by omega
        have hm : a.length * k.toNat ≤ 1000 * 1000 := Nat.mul_le_mul hz.2.2 hk
        refine .inr ⟨_, _, xs, rfl, rfl, h1, by omega, by omega, by rw [hl]; exact leLIM hm, fun p hp => ?_⟩
        exact q _ _ (same_new hp) (.lst upd_same (S.nmem hp) (Reps.ext (Ext.new hp) _ _ (reps_flatten h2 _)) (by rw [len_flatten]; exact leLIM hm))
    · cases e

/-! ### truth -/
def mTru : D → Sto → Option Bool
  | .non, _ => some false
  | .bl b, _ => some b
  | .int i, _ => some (i != 0)
  | .str x, _ => if x.length ≤ LIM then some ((x.length : Int) != 0) else none
  | .tup l, _ => some (!l.isEmpty)
  | .lst l, _ => some (!l.isEmpty)
  | .ro l, _ => some (!l.isEmpty)
  | .ref n, st => match st[n]? with
    | some (.lst l) => some (!l.isEmpty)
    | some (.dK l) => some (!l.isEmpty)
    | some (.tab _ _) => none
    | some (.dN _) => none
    | some (.ins _ _) => none
    | some (.fN _) => none
    | none => none
  | .raw _, _ => none
  | .clo _ _, _ => none
theorem Reps.empty {K : Zx} {β : Bx} {H : Hp} {vs : List V} {ds : List D} (h : Reps K β H vs ds) : (!ds.isEmpty) = !vs.isEmpty := by cases h <;> rfl
theorem tru_d {K : Zx} {β : Bx} {H : Hp} {st : Sto} {x : V} {d : D} {b : Bool} (r : Rep K β H x d) (S : StoOk K β H st) (e : mTru d st = some b) : TruV K x H b := by
  cases d with
  | non => cases r; exact (Option.some.inj e).symm
  | bl c => cases r; exact (Option.some.inj e).symm
  | int i => cases r; exact (Option.some.inj e).symm
  | str y =>
    cases r
    simp only [mTru] at e
    split at e
    · rename_i hz
      exact ⟨leLIM hz, (Option.some.inj e).symm⟩
    · cases e
  | tup l => cases r with | tup h1 h2 h3 => exact .inr (.inl ⟨_, h1, (Option.some.inj e).symm.trans h2.empty⟩)
  | lst l => cases r with | lst h1 hn h2 h3 => exact .inl ⟨_, SqL.of h1, (Option.some.inj e).symm.trans h2.empty⟩
  | ro l => cases r with | ro h1 h2 h3 => exact .inl ⟨_, h1.sqL, (Option.some.inj e).symm.trans h2.empty⟩
  | ref n =>
    cases r with
    | ref hm =>
      obtain ⟨o, ho, rel⟩ := S.get hm
      simp only [mTru, ho] at e
      cases o with
      | lst l =>
        obtain ⟨xs, h, r⟩ := rel
        exact .inl ⟨_, SqL.of h, (Option.some.inj e).symm.trans r.empty⟩
      | dK l =>
        obtain ⟨vs, h, hl, _⟩ := rel
        refine .inr (.inr ⟨vs, h, (Option.some.inj e).symm.trans ?_⟩)
        cases vs <;> cases l <;> simp_all
      | tab _ _ => cases e
      | dN _ => cases e
      | ins _ _ => cases e
      | fN _ => cases e
  | raw v => cases e
  | clo _ _ => cases e
section
variable {X : Cx} {W : WX} {pos : Pos} {a b c e : Expr} {rest es : List Expr} {f g : G D} {t u : G Bool} {fs : G (List D)}
def gAnd (f g : G D) : G D := fun ρ st => (f ρ st).bind fun d s1 => (oout (mTru d s1) s1).bind fun k s1 => if k then g ρ s1 else .ok d s1
def gOr (f g : G D) : G D := fun ρ st => (f ρ st).bind fun d s1 => (oout (mTru d s1) s1).bind fun k s1 => if k then .ok d s1 else g ρ s1
def gNot (f : G D) : G D := fun ρ st => (f ρ st).bind fun d s1 => (oout (mTru d s1) s1).bind fun k s1 => .ok (.bl !k) s1
def gTr (f : G D) : G Bool := fun ρ st => (f ρ st).bind fun d s1 => oout (mTru d s1) s1
def gIf (t : G Bool) (f g : G D) : G D := fun ρ st => (t ρ st).bind fun k s1 => if k then f ρ s1 else g ρ s1
def gTNot (t : G Bool) : G Bool := fun ρ st => (t ρ st).bind fun k s1 => .ok (!k) s1
def gTAnd (t u : G Bool) : G Bool := fun ρ st => (t ρ st).bind fun k s1 => if k then u ρ s1 else .ok false s1
def gTOr (t u : G Bool) : G Bool := fun ρ st => (t ρ st).bind fun k s1 => if k then .ok true s1 else u ρ s1
theorem de_one {op} (h : DE X W a f) : DE X W (.BoolOp op [a] pos) f := pe_one h
theorem de_and (ha : DE X W a f) (hb : DE X W (.BoolOp .And (b :: rest) pos) g) : DE X W (.BoolOp .And (a :: b :: rest) pos) (gAnd f g) := by
  refine PEmono (pe_andT ha hb) fun σ H Q h => ?_
  obtain ⟨β, ρ, st, hρ, hs, h⟩ := h
  refine tD_intro hρ hs (Out.sat_bind h) (fun d s1 h1 v β1 H1 e1 S1 r1 => ?_) fun _ _ q => q
  obtain ⟨k, q, p⟩ := oout_sat (Out.sat_bind h1)
  refine ⟨k, tru_d r1 S1 q, ?_⟩
  cases k with
  | true => exact ⟨β1, ρ, s1, hρ.ext e1, S1, Out.sat.mono p (fun _ _ z => z.ext e1) fun _ _ z => z.ext e1⟩
  | false => exact p v β1 H1 e1 S1 r1
theorem de_or (ha : DE X W a f) (hb : DE X W (.BoolOp .Or (b :: rest) pos) g) : DE X W (.BoolOp .Or (a :: b :: rest) pos) (gOr f g) := by
  refine PEmono (pe_orT ha hb) fun σ H Q h => ?_
  obtain ⟨β, ρ, st, hρ, hs, h⟩ := h
  refine tD_intro hρ hs (Out.sat_bind h) (fun d s1 h1 v β1 H1 e1 S1 r1 => ?_) fun _ _ q => q
  obtain ⟨k, q, p⟩ := oout_sat (Out.sat_bind h1)
  refine ⟨k, tru_d r1 S1 q, ?_⟩
  cases k with
  | false => exact ⟨β1, ρ, s1, hρ.ext e1, S1, Out.sat.mono p (fun _ _ z => z.ext e1) fun _ _ z => z.ext e1⟩
  | true => exact p v β1 H1 e1 S1 r1
theorem de_not (ha : DE X W a f) : DE X W (.UnaryOp .Not a pos) (gNot f) := by
  refine PEmono (pe_notT ha) fun σ H Q h => ?_
  obtain ⟨β, ρ, st, hρ, hs, h⟩ := h
  refine tD_intro hρ hs (Out.sat_bind h) (fun d s1 h1 v β1 H1 e1 S1 r1 => ?_) fun _ _ q => q
  obtain ⟨k, q, p⟩ := oout_sat (Out.sat_bind h1)
  exact ⟨k, tru_d r1 S1 q, p (.bl !k) β1 H1 e1 S1 (.bl _)⟩
/-- a test that is its value's truth: a name, a call, a subscript .. (he by fun _ => rfl) -/
theorem dt_tr (ha : DE X W a f) (he : ∀ whole, isTrue a X.env whole = (do let v ← whole; standAt a.pos; holding [v] (truthy v)) := by exact fun _ => rfl) : DT X W a (gTr f) := by
  refine PTmono (pt_truth ha he) fun σ H Q h => ?_
  obtain ⟨β, ρ, st, hρ, hs, h⟩ := h
  refine tD_intro hρ hs (Out.sat_bind h) (fun d s1 h1 v β1 H1 e1 S1 r1 => ?_) fun _ _ q => q
  obtain ⟨k, q, p⟩ := oout_sat h1
  exact ⟨k, tru_d r1 S1 q, p β1 H1 e1 S1⟩
def gBl (f : G D) : G Bool := fun ρ st => (f ρ st).bind fun d s1 => match d with
  | .bl k => .ok k s1
  | _ => .bad
theorem gBl_sat {d : D} {s1 : Sto} {P : Bool → Sto → Prop} {E : Exn → Sto → Prop} (h : (match d with | .bl k => Out.ok k s1 | _ => .bad : Out Bool).sat P E) : ∃ k, d = .bl k ∧ P k s1 := by
  cases d <;> first | exact h.elim | exact ⟨_, rfl, h⟩
theorem dt_cmp {op : CmpOp} {r : R2} {m : D → D → Sto → Option D} (ho : OpR X (compareOp op) r) (hm : OpD (zOf X) r m) (ha : DE X W a f) (hb : DE X W b g) (hb' : behindInMarks op b = false := by rfl) : DT X W (.Compare a [op] [b] pos) (gBl (gOp m f g)) := by
  refine PTmono (pt_cmpR ho ha hb hb') fun σ H Q h => ?_
  obtain ⟨β, ρ, st, hρ, hs, h⟩ := h
  have h := Out.sat_bind h
  unfold gOp at h
  refine tD_intro hρ hs (Out.sat_bind h) (fun d s1 h1 v β1 H1 e1 S1 r1 => ?_) fun _ _ q => q
  refine tD_intro (hρ.ext e1) S1 (Out.sat_bind h1) (fun d2 s2 h2 v2 β2 H2 e2 S2 r2 => ?_) fun _ _ q => q.ext e1
  obtain ⟨d3, q, p⟩ := oout_sat h2
  obtain ⟨k, e3, p⟩ := gBl_sat p
  subst e3
  refine hm β2 H2 s2 v v2 d d2 _ _ (Rep.ext e2 _ _ r1) r2 S2 q fun w' H' s' r' => ?_
  cases r'
  exact ⟨k, rfl, p β2 H' ((e1.trans e2).trans (Ext.same s')) (S2.same s')⟩
/-- a < b < c, as a value and as a test -/
def gChain (m m' : D → D → Sto → Option D) (f g h : G D) : G Bool := fun ρ st => (f ρ st).bind fun d s1 => (g ρ s1).bind fun e s2 => (oout (m d e s2) s2).bind fun k s2 => match k with
  | .bl true => (h ρ s2).bind fun e' s3 => (oout (m' e e' s3) s3).bind fun k' s3 => match k' with
    | .bl k => .ok k s3
    | _ => .bad
  | .bl false => .ok false s2
  | _ => .bad
def gB (t : G Bool) : G D := fun ρ st => (t ρ st).bind fun k s1 => .ok (.bl k) s1
theorem chain_core {K : Zx} {mg : Str → Option Value} {σ : L2.St} {H : Hp} {r r' : R2} {m m' : D → D → Sto → Option D} {h : G D} {P : Bool → Sto → Prop} {E : Exn → Sto → Prop} (hm : OpD K r m) (hm' : OpD K r' m') {β : Bx} {ρ : Env} {st : Sto} (hρ : RepEnv K β H σ ρ) (hs : StoOk K β H st)
    (hh : (gChain m m' f g h ρ st).sat P E) {R : V → Hp → Prop} (hP : ∀ k s1, P k s1 → ∀ β' H', Ext β H β' H' → StoOk K β' H' s1 → R (.bl k) H') (hE : ∀ x s1, E x s1 → PostX K mg (fun c d H' => W c d σ H') β H x s1) :
    tChain r r' (tD K mg W f) (tD K mg W g) (tD K mg W h) σ H R := by
  unfold gChain at hh
  refine tD_intro hρ hs (Out.sat_bind hh) (fun d s1 h1 v β1 H1 e1 S1 r1 => ?_) hE
  refine tD_intro (hρ.ext e1) S1 (Out.sat_bind h1) (fun d2 s2 h2 v2 β2 H2 e2 S2 r2 => ?_) fun x s q => (hE x s q).ext e1
  obtain ⟨d3, q, p⟩ := oout_sat (Out.sat_bind h2)
  refine hm β2 H2 s2 v v2 d d2 _ _ (Rep.ext e2 _ _ r1) r2 S2 q fun w' H' s' r' => ?_
  have e12 := (e1.trans e2).trans (Ext.same s')
  cases d3 with
  | bl k =>
    cases r'
    refine ⟨k, rfl, ?_⟩
    cases k with
    | true =>
      refine tD_intro (hρ.ext e12) (S2.same s') (Out.sat_bind p) (fun d4 s4 h4 v4 β4 H4 e4 S4 r4 => ?_) fun x s q => (hE x s q).ext e12
      obtain ⟨d5, q5, p5⟩ := oout_sat (Out.sat_bind h4)
      obtain ⟨k5, e5, p5⟩ := gBl_sat p5
      subst e5
      refine hm' β4 H4 s4 v2 v4 d2 d4 _ _ (Rep.ext ((Ext.same s').trans e4) _ _ r2) r4 S4 q5 fun w5 H5 s5 r5 => ?_
      cases r5
      exact hP _ _ p5 β4 H5 ((e12.trans e4).trans (Ext.same s5)) (S4.same s5)
    | false => exact hP _ _ p β2 H' e12 (S2.same s')
  | _ => exact p.elim
theorem de_chain {op op' : CmpOp} {r r' : R2} {m m' : D → D → Sto → Option D} {h : G D} (ho : OpR X (compareOp op) r) (ho' : OpR X (compareOp op') r') (hm : OpD (zOf X) r m) (hm' : OpD (zOf X) r' m') (ha : DE X W a f) (hb : DE X W b g) (hc : DE X W c h)
    (n1 : lastMarks [op, op'] [b, c] = false := by with_unfolding_all rfl) : DE X W (.Compare a [op, op'] [b, c] pos) (gB (gChain m m' f g h)) := by
  refine PEmono (pe_chain ho ho' ha hb hc n1) fun σ H Q h => ?_
  obtain ⟨β, ρ, st, hρ, hs, h⟩ := h
  exact chain_core hm hm' hρ hs (Out.sat_bind h) (fun k s1 p β' H' e S => p (.bl k) β' H' e S (.bl _)) fun _ _ q => q
theorem dt_chain {op op' : CmpOp} {r r' : R2} {m m' : D → D → Sto → Option D} {h : G D} (ho : OpR X (compareOp op) r) (ho' : OpR X (compareOp op') r') (hm : OpD (zOf X) r m) (hm' : OpD (zOf X) r' m') (ha : DE X W a f) (hb : DE X W b g) (hc : DE X W c h)
    (n1 : lastMarks [op, op'] [b, c] = false := by with_unfolding_all rfl) : DT X W (.Compare a [op, op'] [b, c] pos) (gChain m m' f g h) := by
  refine PTmono (pt_chain ho ho' ha hb hc n1) fun σ H Q h => ?_
  obtain ⟨β, ρ, st, hρ, hs, h⟩ := h
  exact chain_core hm hm' hρ hs h (fun k s1 p β' H' e S => ⟨k, rfl, p β' H' e S⟩) fun _ _ q => q
theorem dt_not (ha : DT X W a t) : DT X W (.UnaryOp .Not a pos) (gTNot t) := by
  refine PTmono (pt_not ha) fun σ H Q h => ?_
  obtain ⟨β, ρ, st, hρ, hs, h⟩ := h
  exact tDT_intro hρ hs (Out.sat_bind h) (fun k s1 h1 β1 H1 e1 S1 => h1 β1 H1 e1 S1) fun _ _ q => q
theorem dw_and1 (ha : DT X W a t) : DW X W (.BoolOp .And [a] pos) t := pw_and1 ha
theorem dw_or1 (ha : DT X W a t) : DW X W (.BoolOp .Or [a] pos) t := pw_or1 ha
theorem dw_and (ha : DT X W a t) (hb : DW X W (.BoolOp .And (b :: rest) pos) u) : DW X W (.BoolOp .And (a :: b :: rest) pos) (gTAnd t u) := by
  refine PWmono (pw_and ha hb) fun σ H Q h => ?_
  obtain ⟨β, ρ, st, hρ, hs, h⟩ := h
  refine tDT_intro hρ hs (Out.sat_bind h) (fun k s1 h1 β1 H1 e1 S1 => ?_) fun _ _ q => q
  cases k with
  | true => exact ⟨β1, ρ, s1, hρ.ext e1, S1, Out.sat.mono h1 (fun _ _ z β2 H2 e2 => z β2 H2 (e1.trans e2)) fun _ _ z => z.ext e1⟩
  | false => exact h1 β1 H1 e1 S1
theorem dw_or (ha : DT X W a t) (hb : DW X W (.BoolOp .Or (b :: rest) pos) u) : DW X W (.BoolOp .Or (a :: b :: rest) pos) (gTOr t u) := by
  refine PWmono (pw_or ha hb) fun σ H Q h => ?_
  obtain ⟨β, ρ, st, hρ, hs, h⟩ := h
  refine tDT_intro hρ hs (Out.sat_bind h) (fun k s1 h1 β1 H1 e1 S1 => ?_) fun _ _ q => q
  cases k with
  | false => exact ⟨β1, ρ, s1, hρ.ext e1, S1, Out.sat.mono h1 (fun _ _ z β2 H2 e2 => z β2 H2 (e1.trans e2)) fun _ _ z => z.ext e1⟩
  | true => exact h1 β1 H1 e1 S1
theorem dt_w (h : DW X W a t) : DT X W a t := h.pt
theorem de_if (hc : DT X W c t) (ha : DE X W a f) (hb : DE X W b g) : DE X W (.IfExp c a b pos) (gIf t f g) := by
  refine PEmono (pe_ifExp hc ha hb) fun σ H Q h => ?_
  obtain ⟨β, ρ, st, hρ, hs, h⟩ := h
  refine tDT_intro hρ hs (Out.sat_bind h) (fun k s1 h1 β1 H1 e1 S1 => ?_) fun _ _ q => q
  cases k with
  | true => exact ⟨β1, ρ, s1, hρ.ext e1, S1, Out.sat.mono h1 (fun _ _ z => z.ext e1) fun _ _ z => z.ext e1⟩
  | false => exact ⟨β1, ρ, s1, hρ.ext e1, S1, Out.sat.mono h1 (fun _ _ z => z.ext e1) fun _ _ z => z.ext e1⟩

/-! ### items, slices -/
def atD (l : List D) (i : Int) : Option D := atI l i
def mIx : D → D → Sto → Option D
  | .tup l, .int i, _ => atI l i
  | .lst l, .int i, _ => atI l i
  | .ro l, .int i, _ => atI l i
  | .ref n, .int i, st => match st[n]? with
    | some (.lst l) => atI l i
    | _ => none
  | .str z, .int i, _ => if z.length ≤ LIM then (atI z.cps.toList i).map fun c => .str ⟨#[c]⟩ else none
  | _, _, _ => none
theorem Reps.atI {K : Zx} {β : Bx} {H : Hp} {vs : List V} {ds : List D} {i : Int} {d : D} (r : Reps K β H vs ds) (h : L2.atI ds i = some d) : ∃ v, L2.atI vs i = some v ∧ Rep K β H v d := by
  unfold L2.atI at h ⊢
  rw [r.length]
  cases e : ixN ds.length i with
  | none => rw [e] at h; cases h
  | some j =>
    rw [e] at h
    exact r.get h
theorem od_ix {K : Zx} : OpD K (rIx K) mIx := by
  intro β H st x y dx dy d Q rx ry S e q
  cases dy <;> try (cases dx <;> simp only [mIx, reduceCtorEq] at e)
  all_goals cases ry
  case tup.int l i => cases rx with | tup h1 h2 h3 => obtain ⟨v, hv, r⟩ := h2.atI e; exact .inr (.inl ⟨_, _, _, v, rfl, rfl, h1, hv, q _ _ (Same.refl H) r⟩)
  case lst.int l i => cases rx with | lst h1 hn h2 h3 => obtain ⟨v, hv, r⟩ := h2.atI e; exact .inl ⟨_, _, _, v, rfl, rfl, SqL.of h1, hv, q _ _ (Same.refl H) r⟩
  case ro.int l i => cases rx with | ro h1 h2 h3 => obtain ⟨v, hv, r⟩ := h2.atI e; exact .inl ⟨_, _, _, v, rfl, rfl, h1.sqL, hv, q _ _ (Same.refl H) r⟩
  case ref.int n i =>
    cases rx with
    | ref hm =>
      obtain ⟨o, ho, rel⟩ := S.get hm
      rw [ho] at e
      cases o with
      | lst l =>
        obtain ⟨xs, h, r⟩ := rel
        obtain ⟨v, hv, r⟩ := r.atI e
        exact .inl ⟨_, _, _, v, rfl, rfl, SqL.of h, hv, q _ _ (Same.refl H) r⟩
      | dK l => cases e
      | tab _ _ => cases e
      | dN _ => cases e
      | ins _ _ => cases e
      | fN _ => cases e
  case str.int z i =>
    cases rx
    split at e
    · rename_i hz
      rw [Option.map_eq_some_iff] at e
      obtain ⟨c, hc, e⟩ := e
      subst e
      exact .inr (.inr ⟨_, _, c, rfl, rfl, leLIM hz, hc, q _ _ (Same.refl H) (.str _)⟩)
    · cases e
end
end DL

set_option Elab.async false
set_option linter.all false
set_option maxRecDepth 100000
set_option maxHeartbeats 2000000
namespace DL
open PySem PySem.Spec L2
open PyProof.Rows hiding St

/-! ### slices -/
def cutD (xs : List D) (lo hi : Option Int) : List D := (xs.drop (HT.sIx xs.length 0 lo)).take (HT.sIx xs.length xs.length hi - HT.sIx xs.length 0 lo)
def mSl : D → Option Int → Option Int → Sto → Option D
  | .tup l, lo, hi, _ => some (.tup (cutD l lo hi))
  | .lst l, lo, hi, _ => some (.lst (cutD l lo hi))
  | .ro l, lo, hi, _ => some (.lst (cutD l lo hi))
  | .ref n, lo, hi, st => match st[n]? with
    | some (.lst l) => if l.length ≤ LIM then some (.lst (cutD l lo hi)) else none
    | _ => none
  | _, _, _, _ => none
theorem cutD_len (xs : List D) (lo hi : Option Int) : (cutD xs lo hi).length ≤ xs.length := by
  unfold cutD
  rw [List.length_take, List.length_drop]
  omega
theorem Reps.cut {K : Zx} {β : Bx} {H : Hp} {vs : List V} {ds : List D} (r : Reps K β H vs ds) (lo hi : Option Int) : Reps K β H (cutV vs lo hi) (cutD ds lo hi) := by
  unfold cutV cutD
  rw [r.length]
  exact (r.drop _).take _
theorem cutD_whole {xs : List D} {lo hi : Option Int} (h : HT.sIx xs.length 0 lo = 0 ∧ HT.sIx xs.length xs.length hi = xs.length) : cutD xs lo hi = xs := by
  unfold cutD
  rw [h.1, h.2]
  simp
abbrev rSlD (K : PySem.W.Frag) : V → Option Int → Option Int → Hp → VK → Prop := fun x lo hi H Q => rSlA K x lo hi H Q ∨ rSlL K x lo hi H Q
theorem sr_sl {X : Cx} : SlR X (rSlD X.K) := sl_tupA.or sl_list
theorem sd_sl {K : Zx} {β : Bx} {H : Hp} {st : Sto} {x : V} {dx d : D} {lo hi : Option Int} {Q : VK} (rx : Rep K β H x dx) (S : StoOk K β H st) (e : mSl dx lo hi st = some d) (q : ∀ v H', Same H H' → Rep K β H' v d → Q v H') : rSlD K x lo hi H Q := by
  cases dx <;> simp only [mSl, reduceCtorEq, Option.some.injEq] at e
  case tup l =>
    subst e
    cases rx with
    | tup h1 h2 h3 =>
      rename_i p xs
      refine .inl ⟨_, xs, rfl, h1, fun hw => ?_, fun hw p hp => ?_⟩
      · rw [h2.length] at hw
        rw [cutD_whole hw] at q
        exact q _ _ (Same.refl H) (.tup h1 h2 h3)
      · exact q _ _ (same_new hp) (.tup (.inl (.inl upd_same)) (Reps.ext (Ext.new hp) _ _ (h2.cut lo hi)) (Nat.le_trans (cutD_len _ _ _) h3))
  case lst l =>
    subst e
    cases rx with
    | lst h1 hn h2 h3 =>
      exact .inr ⟨_, _, rfl, SqL.of h1, fun p hp => q _ _ (same_new hp) (.lst upd_same (S.nmem hp) (Reps.ext (Ext.new hp) _ _ (h2.cut lo hi)) (Nat.le_trans (cutD_len _ _ _) h3))⟩
  case ro l =>
    subst e
    cases rx with
    | ro h1 h2 h3 =>
      exact .inr ⟨_, _, rfl, h1.sqL, fun p hp => q _ _ (same_new hp) (.lst upd_same (S.nmem hp) (Reps.ext (Ext.new hp) _ _ (h2.cut lo hi)) (Nat.le_trans (cutD_len _ _ _) h3))⟩
  case ref n =>
    cases rx with
    | ref hm =>
      obtain ⟨o, ho, rel⟩ := S.get hm
      rw [ho] at e
      cases o with
      | lst l =>
        obtain ⟨xs, h, r⟩ := rel
        have e : (if l.length ≤ LIM then some (D.lst (cutD l lo hi)) else none) = some d := e
        split at e
        · rename_i hz
          have e := Option.some.inj e
          subst e
          exact .inr ⟨_, _, rfl, SqL.of h, fun p hp => q _ _ (same_new hp) (.lst upd_same (S.nmem hp) (Reps.ext (Ext.new hp) _ _ (r.cut lo hi)) (Nat.le_trans (cutD_len _ _ _) (leLIM hz)))⟩
        · cases e
      | dK l => cases e
      | tab _ _ => cases e
      | dN _ => cases e
      | ins _ _ => cases e
      | fN _ => cases e
def gOp3 (f : G D) (lo hi : G (Option Int)) : G D := fun ρ st => (f ρ st).bind fun d s1 => (lo ρ s1).bind fun l s2 => (hi ρ s2).bind fun u s3 => oout (mSl d l u s3) s3
def gNone : G (Option Int) := fun _ st => .ok none st
def gSome (f : G D) : G (Option Int) := fun ρ st => (f ρ st).bind fun d s1 => match d with
  | .int i => .ok (some i) s1
  | _ => .bad

def PostO (K : Zx) (Q : Option Int → Hp → Prop) (β : Bx) (H : Hp) : Option Int → Sto → Prop := fun o st' => ∀ β' H', Ext β H β' H' → StoOk K β' H' st' → Q o H'
def tDO (K : Zx) (mg : Str → Option Value) (W : WX) (f : G (Option Int)) : TO := fun σ H Q => ∃ β ρ st, RepEnv K β H σ ρ ∧ StoOk K β H st ∧
  (f ρ st).sat (PostO K Q β H) (PostX K mg (fun c d H' => W c d σ H') β H)
section
variable {X : Cx} {W : WX} {pos p2 : Pos} {a b c e : Expr} {lo hi : Option Expr} {es : List Expr} {f g : G D} {l u : G (Option Int)} {fs : G (List D)}
abbrev DO (X : Cx) (W : WX) (e : Option Expr) (f : G (Option Int)) : Prop := PO X e (tDO (zOf X) X.mg W f)
theorem POmono {X : Cx} {e : Option Expr} {t t' : TO} (h : PO X e t) (i : ∀ σ H Q, t' σ H Q → t σ H Q) : PO X e t' := by
  obtain ⟨r⟩ := h
  exact ⟨fun pins s σ H Q I q => r pins s σ H Q I (i _ _ _ q)⟩
theorem do_none : DO X W none gNone := by
  refine POmono po_none fun σ H Q h => ?_
  obtain ⟨β, ρ, st, hρ, hs, h⟩ := h
  exact h β H (Ext.refl β H) hs
theorem do_some (h : DE X W e f) : DO X W (some e) (gSome f) := by
  refine POmono (po_some h) fun σ H Q h => ?_
  obtain ⟨β, ρ, st, hρ, hs, h⟩ := h
  refine tD_intro hρ hs (Out.sat_bind h) (fun d s1 h1 v β1 H1 e1 S1 r1 => ?_) fun _ _ q => q
  cases d with
  | int i => cases r1; exact ⟨i, rfl, h1 β1 H1 e1 S1⟩
  | _ => exact h1.elim
theorem de_sl (he : DE X W e f) (hl : DO X W lo l) (hu : DO X W hi u) : DE X W (.Subscript e (.Slice lo hi none p2) pos) (gOp3 f l u) := by
  refine PEmono (pe_slice sr_sl he hl hu) fun σ H Q h => ?_
  obtain ⟨β, ρ, st, hρ, hs, h⟩ := h
  refine tD_intro hρ hs (Out.sat_bind h) (fun d s1 h1 v β1 H1 e1 S1 r1 => ?_) fun _ _ q => q
  refine ⟨β1, ρ, s1, hρ.ext e1, S1, (Out.sat_bind h1).mono (fun o s2 h2 β2 H2 e2 S2 => ?_) fun _ _ q => q.ext e1⟩
  refine ⟨β2, ρ, s2, (hρ.ext e1).ext e2, S2, (Out.sat_bind h2).mono (fun o2 s3 h3 β3 H3 e3 S3 => ?_) fun _ _ q => (q.ext e1).ext e2⟩
  obtain ⟨d3, q, p⟩ := oout_sat h3
  exact sd_sl (Rep.ext (e2.trans e3) _ _ r1) S3 q fun w' H' s' r' => p w' β3 H' (((e1.trans e2).trans e3).trans (Ext.same s')) (S3.same s') r'
end

/-! ### built-ins -/
section
variable {K : Zx}
def tyD : D → Sto → Option String
  | .non, _ => some "NoneType"
  | .bl _, _ => some "bool"
  | .int _, _ => some "int"
  | .str _, _ => some "str"
  | .tup _, _ => some "tuple"
  | .lst _, _ => some "list"
  | .ro _, _ => some "list"
  | .ref n, st => match st[n]? with
    | some (.lst _) => some "list"
    | some (.dK _) => some "dict"
    | some (.tab _ _) => none
    | some (.dN _) => none
    | some (.ins _ _) => none
    | some (.fN _) => none
    | none => none
  | .raw _, _ => none
  | .clo _ _, _ => none
theorem tyD_x {β : Bx} {H : Hp} {st : Sto} {x : V} {d : D} {t : String} (r : Rep K β H x d) (S : StoOk K β H st) (e : tyD d st = some t) : TyX K H x (.type t) := by
  cases d with
  | non => cases r; cases e; exact .base .non
  | bl c => cases r; cases e; exact .base (.bl _)
  | int i => cases r; cases e; exact .base (.int _)
  | str y => cases r; cases e; exact .base (.str _)
  | tup l =>
    cases e
    cases r with
    | tup h1 h2 h3 =>
      rcases h1 with (h | ⟨o, h⟩) | ⟨o, its, n, hk, hc, _⟩
      · exact .base (.tup h)
      · exact .fTuple h
      · exact .kTuple hk hc
  | lst l => cases e; cases r with | lst h1 hn h2 h3 => exact .base (.lst h1)
  | ro l =>
    cases e
    cases r with
    | ro h1 h2 h3 =>
      rcases h1 with ⟨o, h⟩ | ⟨o, its, n, hk, hc, _⟩
      · exact .base (.frz h)
      · exact .kList hk hc
  | ref n =>
    cases r with
    | ref hm =>
      obtain ⟨o, ho, rel⟩ := S.get hm
      simp only [tyD, ho] at e
      cases o with
      | lst l => cases e; obtain ⟨xs, h, _⟩ := rel; exact .base (.lst h)
      | dK l => cases e; obtain ⟨xs, h, _⟩ := rel; exact .base (.dK h)
      | tab _ _ => cases e
      | dN _ => cases e
      | ins _ _ => cases e
      | fN _ => cases e
  | raw v => cases e
  | clo _ _ => cases e
/-- isinstance of built-in types -/
def isiB (a b : String) : Option Bool :=
  if a = b then (if a ∈ ["int", "bool", "str", "tuple", "list", "dict"] then some true else none) else if a = "bool" ∧ b = "int" then some true else
  if a ∈ ["NoneType", "int", "bool", "str", "tuple", "list", "dict"] ∧ b ∈ ["int", "bool", "str", "tuple", "list", "dict"] then some false else none
theorem isiB_kit {a b : String} {r : Bool} (h : isiB a b = some r) : kitB a b = some r := by
  unfold isiB at h
  split at h
  · rename_i e
    subst e
    split at h
    · rename_i hm
      cases h
      simp only [List.mem_cons, List.not_mem_nil, or_false] at hm
      rcases hm with rfl | rfl | rfl | rfl | rfl | rfl <;> decide +kernel
    · cases h
  · split at h
    · rename_i e
      obtain ⟨rfl, rfl⟩ := e
      cases h
      decide +kernel
    · split at h
      · rename_i n1 n2 e
        cases h
        obtain ⟨ha, hb⟩ := e
        simp only [List.mem_cons, List.not_mem_nil, or_false] at ha hb
        rcases ha with rfl | rfl | rfl | rfl | rfl | rfl | rfl <;> rcases hb with rfl | rfl | rfl | rfl | rfl | rfl <;> first | exact absurd rfl n1 | exact absurd ⟨rfl, rfl⟩ n2 | decide +kernel
      · cases h
def mIsi : List D → Sto → Option D
  | [d, .raw (.ty b)], st => match tyD d st with
    | some a => (isiB a b).map D.bl
    | none => none
  | _, _ => none
theorem cd_isi : CallD K (rIsi K) mIsi := by
  intro β H st xs ds d Q r S e q
  match ds, r, e with
  | [x, .raw (.ty b)], r, e =>
    obtain ⟨v, w, rfl, r1, r2⟩ := r.two
    simp only [mIsi] at e
    split at e
    · rename_i a ha
      rw [Option.map_eq_some_iff] at e
      obtain ⟨k, hk, e⟩ := e
      subst e
      cases r2
      exact ⟨v, .ty b, _, _, k, rfl, .ty b, tyD_x r1 S ha, kit_ty (isiB_kit hk), q _ _ (Same.refl H) (.bl _)⟩
    · cases e
def mLen : List D → Sto → Option D
  | [.str x], _ => if x.length ≤ LIM then some (.int x.length) else none
  | [.tup l], _ => some (.int l.length)
  | [.lst l], _ => some (.int l.length)
  | [.ro l], _ => some (.int l.length)
  | [.ref n], st => match st[n]? with
    | some (.lst l) => some (.int l.length)
    | _ => none
  | _, _ => none
abbrev rLenD (K : PySem.W.Frag) : List V → Hp → VK → Prop := fun xs H Q => ∃ x n, xs = [x] ∧ LenV K x H n ∧ Q (.int n) H
theorem cd_len : CallD K (rLenD K) mLen := by
  intro β H st xs ds d Q r S e q
  match ds, r, e with
  | [.str x], r, e =>
    obtain ⟨v, rfl, r1⟩ := r.one
    cases r1
    simp only [mLen] at e
    split at e
    · rename_i hz
      cases e
      exact ⟨_, x.length, rfl, ⟨leLIM hz, rfl⟩, q _ _ (Same.refl H) (.int _)⟩
    · cases e
  | [.tup l], r, e =>
    obtain ⟨v, rfl, r1⟩ := r.one
    cases e
    cases r1 with | tup h1 h2 h3 => exact ⟨_, l.length, rfl, .inr ⟨_, h1, h2.length.symm⟩, q _ _ (Same.refl H) (.int _)⟩
  | [.lst l], r, e =>
    obtain ⟨v, rfl, r1⟩ := r.one
    cases e
    cases r1 with | lst h1 hn h2 h3 => exact ⟨_, l.length, rfl, .inl ⟨_, SqL.of h1, h2.length.symm⟩, q _ _ (Same.refl H) (.int _)⟩
  | [.ro l], r, e =>
    obtain ⟨v, rfl, r1⟩ := r.one
    cases e
    cases r1 with | ro h1 h2 h3 => exact ⟨_, l.length, rfl, .inl ⟨_, h1.sqL, h2.length.symm⟩, q _ _ (Same.refl H) (.int _)⟩
  | [.ref n], r, e =>
    obtain ⟨v, rfl, r1⟩ := r.one
    cases r1 with
    | ref hm =>
      obtain ⟨o, ho, rel⟩ := S.get hm
      simp only [mLen, ho] at e
      cases o with
      | lst l =>
        cases e
        obtain ⟨xs, h, r⟩ := rel
        exact ⟨_, l.length, rfl, .inl ⟨_, SqL.of h, r.length.symm⟩, q _ _ (Same.refl H) (.int _)⟩
      | dK l => cases e
      | tab _ _ => cases e
      | dN _ => cases e
      | ins _ _ => cases e
      | fN _ => cases e
def mTuple : List D → Sto → Option D
  | [.tup l], _ => some (.tup l)
  | [.lst l], _ => some (.tup l)
  | [.ro l], _ => some (.tup l)
  | [.ref n], st => match st[n]? with
    | some (.lst l) => if l.length ≤ LIM then some (.tup l) else none
    | _ => none
  | _, _ => none
abbrev rTupleD (K : PySem.W.Frag) : List V → Hp → VK → Prop := fun xs H Q => ∃ p ys, xs = [.ref p] ∧ ((SqL K H p ys ∧ ∀ l, H l = none → Q (.ref l) (upd H l (.tup ys))) ∨ (SqT K H p ys ∧ Q (.ref p) H))
theorem cd_tuple : CallD K (rTupleD K) mTuple := by
  intro β H st xs ds d Q r S e q
  match ds, r, e with
  | [.tup l], r, e =>
    obtain ⟨v, rfl, r1⟩ := r.one
    cases e
    cases r1 with | tup h1 h2 h3 => exact ⟨_, _, rfl, .inr ⟨h1, q _ _ (Same.refl H) (.tup h1 h2 h3)⟩⟩
  | [.lst l], r, e =>
    obtain ⟨v, rfl, r1⟩ := r.one
    cases e
    cases r1 with | lst h1 hn h2 h3 => exact ⟨_, _, rfl, .inl ⟨SqL.of h1, fun p hp => q _ _ (same_new hp) (.tup (.inl (.inl upd_same)) (Reps.ext (Ext.new hp) _ _ h2) h3)⟩⟩
  | [.ro l], r, e =>
    obtain ⟨v, rfl, r1⟩ := r.one
    cases e
    cases r1 with | ro h1 h2 h3 => exact ⟨_, _, rfl, .inl ⟨h1.sqL, fun p hp => q _ _ (same_new hp) (.tup (.inl (.inl upd_same)) (Reps.ext (Ext.new hp) _ _ h2) h3)⟩⟩
  | [.ref n], r, e =>
    obtain ⟨v, rfl, r1⟩ := r.one
    cases r1 with
    | ref hm =>
      obtain ⟨o, ho, rel⟩ := S.get hm
      simp only [mTuple, ho] at e
      cases o with
      | lst l =>
        simp only at e
        split at e
        · rename_i hz
          cases e
          obtain ⟨xs, h, r⟩ := rel
          exact ⟨_, _, rfl, .inl ⟨SqL.of h, fun p hp => q _ _ (same_new hp) (.tup (.inl (.inl upd_same)) (Reps.ext (Ext.new hp) _ _ r) (leLIM hz))⟩⟩
        · cases e
      | dK l => cases e
      | tab _ _ => cases e
      | dN _ => cases e
      | ins _ _ => cases e
      | fN _ => cases e
def mList : List D → Sto → Option D
  | [.tup l], _ => some (.lst l)
  | [.lst l], _ => some (.lst l)
  | [.ro l], _ => some (.lst l)
  | [.ref n], st => match st[n]? with
    | some (.lst l) => if l.length ≤ LIM then some (.lst l) else none
    | _ => none
  | _, _ => none
abbrev rListD (K : PySem.W.Frag) : List V → Hp → VK → Prop := fun xs H Q => ∃ p ys, xs = [.ref p] ∧ (SqL K H p ys ∨ SqT K H p ys) ∧ ∀ l, H l = none → Q (.ref l) (upd H l (.lst ys))
theorem cd_list : CallD K (rListD K) mList := by
  intro β H st xs ds d Q r S e q
  have fin : ∀ {p : Addr} {ys : List V} {l : List D}, Reps K β H ys l → l.length ≤ sizeLine → (SqL K H p ys ∨ SqT K H p ys) → d = .lst l → xs = [.ref p] → rListD K xs H Q := fun {p ys l} h2 h3 hh ed ex => by
    subst ed
    exact ⟨p, ys, ex, hh, fun p hp => q _ _ (same_new hp) (.lst upd_same (S.nmem hp) (Reps.ext (Ext.new hp) _ _ h2) h3)⟩
  match ds, r, e with
  | [.tup l], r, e =>
    obtain ⟨v, rfl, r1⟩ := r.one
    cases e
    cases r1 with | tup h1 h2 h3 => exact fin h2 h3 (.inr h1) rfl rfl
  | [.lst l], r, e =>
    obtain ⟨v, rfl, r1⟩ := r.one
    cases e
    cases r1 with | lst h1 hn h2 h3 => exact fin h2 h3 (.inl (SqL.of h1)) rfl rfl
  | [.ro l], r, e =>
    obtain ⟨v, rfl, r1⟩ := r.one
    cases e
    cases r1 with | ro h1 h2 h3 => exact fin h2 h3 (.inl h1.sqL) rfl rfl
  | [.ref n], r, e =>
    obtain ⟨v, rfl, r1⟩ := r.one
    cases r1 with
    | ref hm =>
      obtain ⟨o, ho, rel⟩ := S.get hm
      simp only [mList, ho] at e
      cases o with
      | lst l =>
        simp only at e
        split at e
        · rename_i hz
          cases e
          obtain ⟨xs, h, r⟩ := rel
          exact fin r (leLIM hz) (.inl (SqL.of h)) rfl rfl
        · cases e
      | dK l => cases e
      | tab _ _ => cases e
      | dN _ => cases e
      | ins _ _ => cases e
      | fN _ => cases e
def bls : List D → Option (List Bool)
  | [] => some []
  | .bl b :: r => (bls r).map (b :: ·)
  | _ => none
theorem bls_reps {β : Bx} {H : Hp} : ∀ {l : List D} {xs : List V} {bs : List Bool}, Reps K β H xs l → bls l = some bs → xs = bs.map V.bl
  | [], _, _, r, e => by cases r; cases e; rfl
  | d :: l, _, _, r, e => by
    cases r with
    | cons r1 r2 =>
      cases d <;> simp only [bls, reduceCtorEq] at e
      rw [Option.map_eq_some_iff] at e
      obtain ⟨bs, hb, rfl⟩ := e
      cases r1
      rw [bls_reps r2 hb]
      rfl
def mAll : List D → Sto → Option D
  | [.lst l], _ => (bls l).map fun bs => .bl (bs.all id)
  | _, _ => none
def mAny : List D → Sto → Option D
  | [.lst l], _ => (bls l).map fun bs => .bl (bs.any id)
  | _, _ => none
theorem cd_all : CallD K (rAll K) mAll := by
  intro β H st xs ds d Q r S e q
  match ds, r, e with
  | [.lst l], r, e =>
    obtain ⟨v, rfl, r1⟩ := r.one
    simp only [mAll, Option.map_eq_some_iff] at e
    obtain ⟨bs, hb, rfl⟩ := e
    cases r1 with | lst h1 hn h2 h3 => exact ⟨_, bs, rfl, by rw [← bls_reps h2 hb]; exact SqL.of h1, q _ _ (Same.refl H) (.bl _)⟩
theorem cd_any : CallD K (rAny K) mAny := by
  intro β H st xs ds d Q r S e q
  match ds, r, e with
  | [.lst l], r, e =>
    obtain ⟨v, rfl, r1⟩ := r.one
    simp only [mAny, Option.map_eq_some_iff] at e
    obtain ⟨bs, hb, rfl⟩ := e
    cases r1 with | lst h1 hn h2 h3 => exact ⟨_, bs, rfl, by rw [← bls_reps h2 hb]; exact SqL.of h1, q _ _ (Same.refl H) (.bl _)⟩
def mInt : List D → Sto → Option D
  | [.int i], _ => some (.int i)
  | [.bl b], _ => some (.int (if b then 1 else 0))
  | _, _ => none
abbrev rIntD : List V → Hp → VK → Prop := fun xs H Q => (∃ i, xs = [.int i] ∧ Q (.int i) H) ∨ ∃ k, xs = [.bl k] ∧ Q (.int (if k then 1 else 0)) H
theorem cd_int : CallD K rIntD mInt := by
  intro β H st xs ds d Q r S e q
  match ds, r, e with
  | [.int i], r, e => obtain ⟨v, rfl, r1⟩ := r.one; cases r1; cases e; exact .inl ⟨_, rfl, q _ _ (Same.refl H) (.int _)⟩
  | [.bl i], r, e => obtain ⟨v, rfl, r1⟩ := r.one; cases r1; cases e; exact .inr ⟨_, rfl, q _ _ (Same.refl H) (.int _)⟩
def mMin2 : List D → Sto → Option D
  | [.int i, .int j], _ => some (.int (if j < i then j else i))
  | _, _ => none
def mMax2 : List D → Sto → Option D
  | [.int i, .int j], _ => some (.int (if j > i then j else i))
  | _, _ => none
theorem cd_min2 : CallD K (fun xs H Q => ∃ i j, xs = [.int i, .int j] ∧ Q (.int (if j < i then j else i)) H) mMin2 := by
  intro β H st xs ds d Q r S e q
  match ds, r, e with
  | [.int i, .int j], r, e => obtain ⟨v, w, rfl, r1, r2⟩ := r.two; cases r1; cases r2; cases e; exact ⟨_, _, rfl, q _ _ (Same.refl H) (.int _)⟩
theorem cd_max2 : CallD K (fun xs H Q => ∃ i j, xs = [.int i, .int j] ∧ Q (.int (if j > i then j else i)) H) mMax2 := by
  intro β H st xs ds d Q r S e q
  match ds, r, e with
  | [.int i, .int j], r, e => obtain ⟨v, w, rfl, r1, r2⟩ := r.two; cases r1; cases r2; cases e; exact ⟨_, _, rfl, q _ _ (Same.refl H) (.int _)⟩
end
end DL

set_option Elab.async false
set_option linter.all false
set_option maxRecDepth 100000
set_option maxHeartbeats 2000000
namespace DL
open PySem PySem.Spec L2
open PyProof.Rows hiding St

/-! ### targets -/
inductive Pat where
  | nm (i : Nat) | tp (ps : List Pat)
mutual
def Pat.tg (K : Zx) : Pat → TG
  | .nm i => gName i
  | .tp ps => gTup K ps.length (Pats.tg K ps)
def Pats.tg (K : Zx) : List Pat → TGs
  | [] => gNil
  | p :: ps => gCons (Pat.tg K p) (Pats.tg K ps)
end
mutual
def Pat.set : Pat → D → Env → Option Env
  | .nm i, d, ρ => some (ρ.set i (some d))
  | .tp ps, .tup ds, ρ => if ds.length = ps.length then Pats.set ps ds ρ else none
  | .tp _, _, _ => none
def Pats.set : List Pat → List D → Env → Option Env
  | [], [], ρ => some ρ
  | p :: ps, d :: ds, ρ => match Pat.set p d ρ with
    | some ρ' => Pats.set ps ds ρ'
    | none => none
  | [], _ :: _, _ => none
  | _ :: _, [], _ => none
end
mutual
def Pat.slots : Pat → List Nat
  | .nm i => [i]
  | .tp ps => Pats.slots ps
def Pats.slots : List Pat → List Nat
  | [] => []
  | p :: ps => Pat.slots p ++ Pats.slots ps
end
section
variable {K : Zx} {β : Bx} {H : Hp}
mutual
theorem pat_ok : ∀ (p : Pat) (v : V) (d : D) (σ : L2.St) (ρ ρ' : Env) (Q : L2.St → Hp → Prop), Rep K β H v d → Pat.set p d ρ = some ρ' → RepEnv K β H σ ρ →
    (∀ σ', RepEnv K β H σ' ρ' → (∀ j, j ∉ p.slots → σ'[j]? = σ[j]?) → σ'.length = σ.length → Q σ' H) → p.tg K v σ H Q
  | .nm i, v, d, σ, ρ, ρ', Q, r, e, hρ, q => by
    simp only [Pat.set, Option.some.injEq] at e
    subst e
    simp only [Pat.tg]
    refine q _ (hρ.set i r) (fun j hj => ?_) (by simp)
    simp only [Pat.slots, List.mem_singleton] at hj
    rw [List.getElem?_set_ne (Ne.symm hj)]
  | .tp ps, v, .tup ds, σ, ρ, ρ', Q, r, e, hρ, q => by
    simp only [Pat.set] at e
    split at e
    · rename_i hl
      cases r with
      | tup h1 h2 h3 =>
        simp only [Pat.tg]
        refine ⟨_, _, rfl, h1, by rw [h2.length]; exact hl, ?_⟩
        exact pats_ok ps _ ds σ ρ ρ' Q h2 e hρ (by simpa only [Pat.slots] using q)
    · cases e
  | .tp ps, v, .non, σ, ρ, ρ', Q, r, e, hρ, q => by simp [Pat.set] at e
  | .tp ps, v, .bl _, σ, ρ, ρ', Q, r, e, hρ, q => by simp [Pat.set] at e
  | .tp ps, v, .int _, σ, ρ, ρ', Q, r, e, hρ, q => by simp [Pat.set] at e
  | .tp ps, v, .str _, σ, ρ, ρ', Q, r, e, hρ, q => by simp [Pat.set] at e
  | .tp ps, v, .lst _, σ, ρ, ρ', Q, r, e, hρ, q => by simp [Pat.set] at e
  | .tp ps, v, .ro _, σ, ρ, ρ', Q, r, e, hρ, q => by simp [Pat.set] at e
  | .tp ps, v, .ref _, σ, ρ, ρ', Q, r, e, hρ, q => by simp [Pat.set] at e
  | .tp ps, v, .raw _, σ, ρ, ρ', Q, r, e, hρ, q => by simp [Pat.set] at e
  | .tp ps, v, .clo _ _, σ, ρ, ρ', Q, r, e, hρ, q => by simp [Pat.set] at e
theorem pats_ok : ∀ (ps : List Pat) (vs : List V) (ds : List D) (σ : L2.St) (ρ ρ' : Env) (Q : L2.St → Hp → Prop), Reps K β H vs ds → Pats.set ps ds ρ = some ρ' → RepEnv K β H σ ρ →
    (∀ σ', RepEnv K β H σ' ρ' → (∀ j, j ∉ Pats.slots ps → σ'[j]? = σ[j]?) → σ'.length = σ.length → Q σ' H) → Pats.tg K ps vs σ H Q
  | [], vs, [], σ, ρ, ρ', Q, r, e, hρ, q => by
    simp only [Pats.set, Option.some.injEq] at e
    subst e
    cases r
    simp only [Pats.tg]
    exact ⟨rfl, q σ hρ (fun _ _ => rfl) rfl⟩
  | p :: ps, vs, d :: ds, σ, ρ, ρ', Q, r, e, hρ, q => by
    simp only [Pats.set] at e
    split at e
    · rename_i ρ1 h1
      cases r with
      | cons r1 r2 =>
        rename_i v vs
        simp only [Pats.tg]
        refine ⟨v, vs, rfl, ?_⟩
        refine pat_ok p v d σ ρ ρ1 _ r1 h1 hρ fun σ1 hρ1 k1 l1 => ?_
        refine pats_ok ps vs ds σ1 ρ1 ρ' Q r2 e hρ1 fun σ2 hρ2 k2 l2 => ?_
        refine q σ2 hρ2 (fun j hj => ?_) (l2.trans l1)
        simp only [Pats.slots, List.mem_append, not_or] at hj
        rw [k2 j hj.2, k1 j hj.1]
    · cases e
  | [], vs, _ :: _, σ, ρ, ρ', Q, r, e, hρ, q => by simp [Pats.set] at e
  | _ :: _, vs, [], σ, ρ, ρ', Q, r, e, hρ, q => by simp [Pats.set] at e
end
end
theorem wipe_get {σ : L2.St} {j : Nat} : ∀ {vs : List Nat}, (wipe σ vs)[j]? = if j ∈ vs then (if j < σ.length then some none else none) else σ[j]?
  | [] => by simp [wipe]
  | v :: vs => by
    unfold wipe
    by_cases h : v = j
    · subst h
      by_cases hl : v < σ.length
      · rw [List.getElem?_set_self (by rw [wipe_length]; exact hl)]
        simp [hl]
      · rw [List.getElem?_eq_none (by rw [List.length_set, wipe_length]; omega)]
        simp [hl]
    · rw [List.getElem?_set_ne h, wipe_get]
      have : j ∈ v :: vs ↔ j ∈ vs := by
        simp only [List.mem_cons]
        exact ⟨fun z => z.elim (fun e => absurd e.symm h) id, .inr⟩
      simp only [this]
theorem wipe_same {σ σ' : L2.St} {vs : List Nat} (hl : σ'.length = σ.length) (h : ∀ j, j ∉ vs → σ'[j]? = σ[j]?) : wipe σ' vs = wipe σ vs := by
  refine List.ext_getElem? fun j => ?_
  rw [wipe_get, wipe_get, hl]
  by_cases hj : j ∈ vs
  · rw [if_pos hj, if_pos hj]
  · rw [if_neg hj, if_neg hj, h j hj]
def wipeE (ρ : Env) : List Nat → Env
  | [] => ρ
  | v :: vs => (wipeE ρ vs).set v none
theorem RepEnv.setN {K : Zx} {β : Bx} {H : Hp} {σ : L2.St} {ρ : Env} (h : RepEnv K β H σ ρ) (i : Nat) (o : Option V) : RepEnv K β H (σ.set i o) (ρ.set i none) := by
  refine ⟨by rw [List.length_set, List.length_set]; exact h.1, fun j d q => ?_⟩
  by_cases hj : i = j
  · subst hj
    have hl : i < ρ.length := by
      have := (List.getElem?_eq_some_iff.mp q).1
      simpa using this
    rw [List.getElem?_set_self hl] at q
    cases Option.some.inj q
  · rw [List.getElem?_set_ne hj] at q
    obtain ⟨w, h1, h2⟩ := h.2 j d q
    exact ⟨w, by rw [List.getElem?_set_ne hj]; exact h1, h2⟩
theorem RepEnv.wipe {K : Zx} {β : Bx} {H : Hp} {σ : L2.St} {ρ : Env} (h : RepEnv K β H σ ρ) : ∀ vs : List Nat, RepEnv K β H (L2.wipe σ vs) (wipeE ρ vs)
  | [] => h
  | v :: vs => (RepEnv.wipe h vs).setN v none
section
variable {X : Cx} {pos : Pos}
abbrev DG (X : Cx) (tg : Expr) (p : Pat) : Prop := PG X tg (p.tg (zOf X))
abbrev DGs (X : Cx) (tg : List Expr) (p : List Pat) : Prop := PGs X tg (Pats.tg (zOf X) p)
theorem dg_nm {i : Nat} {x : Str} (hN : X.N.Nodup) (hi : X.N[i]? = some x) (hx : Loc X.env.scope x) (hf : X.fn x = true ∨ X.env.scope.names.lookup x = some .local := by first | exact .inl rfl | exact .inr rfl | assumption) : DG X (.Name x pos) (.nm i) := by
  have := pg_name (pos := pos) hN hi hx hf
  exact PGmono this fun v σ H Q h => by simpa only [Pat.tg] using h
theorem dgs_nil : DGs X [] [] := by
  have h := pgs_nil (X := X)
  unfold DGs
  simp only [Pats.tg]
  exact h
theorem dgs_cons {e : Expr} {es : List Expr} {p : Pat} {ps : List Pat} (h1 : DG X e p) (h2 : DGs X es ps) (hs : (assignEach (e :: es) X.env).map (·.2) = assign e X.env :: (assignEach es X.env).map (·.2) := by rfl) : DGs X (e :: es) (p :: ps) := by
  unfold DGs
  simp only [Pats.tg]
  exact pgs_cons h1 h2 hs
theorem dg_tp {es : List Expr} {k : Nat} {ps : List Pat} (hc : X.calm = true) (h : DGs X es ps)
    (hn : (assignEach es X.env).length = ps.length := by rfl) (hst : (assignEach es X.env).findIdx? (·.1) = none := by rfl) : DG X (.Tuple es k pos) (.tp ps) := by
  unfold DG
  simp only [Pat.tg]
  exact pg_tup hc h hn hst
end

/-! ### what is walked -/
structure ItD (K : Zx) (β : Bx) (H : Hp) (J : It) (items : List D) : Prop where
  go : ∀ β' H' i, Mv β H β' H' → i < items.length → J.go i H'
  yld : ∀ β' H' i x H'' d, Mv β H β' H' → items[i]? = some d → J.yld i H' x H'' → Same H' H'' ∧ Rep K β' H'' x d
  stop : ∀ β' H' i, Mv β H β' H' → items.length ≤ i → J.stop i H'
theorem ItD.mv {K : Zx} {β β' : Bx} {H H' : Hp} {J : It} {items : List D} (t : ItD K β H J items) (e : Mv β H β' H') : ItD K β' H' J items :=
  ⟨fun b h i x => t.go b h i (e.trans x), fun b h i x h'' d z => t.yld b h i x h'' d (e.trans z), fun b h i x => t.stop b h i (e.trans x)⟩
def tDI (K : Zx) (mg : Str → Option Value) (W : WX) (f : G (List D)) : TI := fun σ H R => ∃ β ρ st, RepEnv K β H σ ρ ∧ StoOk K β H st ∧
  (f ρ st).sat (fun items st' => ∀ J β' H', Ext β H β' H' → StoOk K β' H' st' → ItD K β' H' J items → items.length ≤ sizeLine → R J H') (PostX K mg (fun c d H' => W c d σ H') β H)
abbrev DI (X : Cx) (W : WX) (tg e : Expr) (f : G (List D)) : Prop := PI X tg e (tDI (zOf X) X.mg W f)
section
variable {K : Zx} {β : Bx} {H : Hp}
theorem itd_l {a : Addr} {xs : List V} {l : List D} (h : ∀ β' H', Mv β H β' H' → SqL K H' a xs) (r : Reps K β H xs l) : ItD K β H (Itl K a) l where
  go := fun β' H' i e hi => ⟨xs, xs[i]'(by rw [r.length]; exact hi), h β' H' e, List.getElem?_eq_getElem _⟩
  yld := fun β' H' i x H'' d e hd hy => by
    obtain ⟨rfl, hy⟩ := hy
    obtain ⟨v, hv, rv⟩ := r.get hd
    have e1 := hy xs (h β' _ e)
    rw [hv] at e1
    have e1 := Option.some.inj e1
    subst e1
    exact ⟨Same.refl _, Rep.move e _ _ rv⟩
  stop := fun β' H' i e hi => ⟨xs, h β' H' e, by rw [r.length]; exact hi⟩
theorem itd_t {a : Addr} {xs : List V} {l : List D} (h : SqT K H a xs) (r : Reps K β H xs l) : ItD K β H (Itt K a) l where
  go := fun β' H' i e hi => ⟨xs, xs[i]'(by rw [r.length]; exact hi), e.sqT h, List.getElem?_eq_getElem _⟩
  yld := fun β' H' i x H'' d e hd hy => by
    obtain ⟨rfl, hy⟩ := hy
    obtain ⟨v, hv, rv⟩ := r.get hd
    have e1 := hy xs (e.sqT h)
    rw [hv] at e1
    have e1 := Option.some.inj e1
    subst e1
    exact ⟨Same.refl _, Rep.move e _ _ rv⟩
  stop := fun β' H' i e hi => ⟨xs, e.sqT h, by rw [r.length]; exact hi⟩
theorem itd_r (lo : Int) (n : Nat) : ItD K β H (Itr lo n) ((List.range n).map fun i : Nat => D.int (lo + (i : Int))) where
  go := fun β' H' i e hi => by show i < n; simpa using hi
  yld := fun β' H' i x H'' d e hd hy => by
    obtain ⟨rfl, rfl⟩ := hy
    rw [List.getElem?_map] at hd
    cases q : (List.range n)[i]? with
    | none => rw [q] at hd; cases hd
    | some j =>
      rw [q] at hd
      have hd := Option.some.inj hd
      have hj : i = j := by
        have := (List.getElem?_eq_some_iff.mp q).2
        simpa using this
      subst hd hj
      exact ⟨Same.refl _, .int _⟩
  stop := fun β' H' i e hi => by show n ≤ i; simpa using hi
def zipD : List D → List D → List D
  | a :: as, b :: bs => .tup [a, b] :: zipD as bs
  | _, _ => []
theorem zipD_len : ∀ a b : List D, (zipD a b).length = min a.length b.length
  | [], b => by simp [zipD]
  | _ :: _, [] => by simp [zipD]
  | a :: as, b :: bs => by simp only [zipD, List.length_cons, zipD_len as bs]; omega
theorem zipD_get : ∀ {a b : List D} {i : Nat} {d : D}, (zipD a b)[i]? = some d → ∃ x y, d = .tup [x, y] ∧ a[i]? = some x ∧ b[i]? = some y
  | [], b, i, d, h => by simp [zipD] at h
  | _ :: _, [], i, d, h => by simp [zipD] at h
  | a :: as, b :: bs, 0, d, h => ⟨a, b, (Option.some.inj (by simpa [zipD] using h)).symm, rfl, rfl⟩
  | a :: as, b :: bs, i + 1, d, h => by
    obtain ⟨x, y, e, h1, h2⟩ := zipD_get (a := as) (b := bs) (i := i) (d := d) (by simpa [zipD] using h)
    exact ⟨x, y, e, by simpa using h1, by simpa using h2⟩
theorem itd_zt {a b : Addr} {xs ys : List V} {l m : List D} (h : SqT K H a xs) (h' : SqT K H b ys) (r : Reps K β H xs l) (r' : Reps K β H ys m) : ItD K β H (RZ.ItzT K a b) (zipD l m) where
  go := fun β' H' i e hi => by
    rw [zipD_len] at hi
    exact ⟨xs, ys, xs[i]'(by rw [r.length]; omega), ys[i]'(by rw [r'.length]; omega), e.sqT h, e.sqT h', List.getElem?_eq_getElem _, List.getElem?_eq_getElem _⟩
  yld := fun β' H' i x H'' d e hd hy => by
    obtain ⟨T, x1, y1, rfl, nT, rfl, f1, f2⟩ := hy
    obtain ⟨dx, dy, rfl, g1, g2⟩ := zipD_get hd
    obtain ⟨v, hv, rv⟩ := r.get g1
    obtain ⟨v', hv', rv'⟩ := r'.get g2
    have e1 := f1 xs (e.sqT h)
    have e2 := f2 ys (e.sqT h')
    rw [hv] at e1
    rw [hv'] at e2
    have e1 := Option.some.inj e1
    have e2 := Option.some.inj e2
    subst e1 e2
    have e3 := e.trans (Ext.new (β := β') (o := .tup [v, v']) nT).mv
    exact ⟨same_new nT, .tup (.inl (.inl upd_same)) (.cons (Rep.move e3 _ _ rv) (.cons (Rep.move e3 _ _ rv') .nil)) (le1000 (by simp))⟩
  stop := fun β' H' i e hi => by
    rw [zipD_len] at hi
    refine ⟨xs, ys, e.sqT h, e.sqT h', ?_⟩
    rw [r.length, r'.length]
    omega
end
def mSeq : D → Sto → Option (List D)
  | .tup l, _ => some l
  | .lst l, _ => some l
  | .ro l, _ => some l
  | _, _ => none
def gSeq (f : G D) : G (List D) := fun ρ st => (f ρ st).bind fun d s1 => oout (mSeq d s1) s1
def intsD (lo : Int) (n : Nat) : List D := (List.range n).map fun i : Nat => D.int (lo + (i : Int))
def mRange1 : List D → Option (List D)
  | [.int n] => if n ≤ 1000000 ∧ -1000000 ≤ n then some (intsD 0 n.toNat) else none
  | _ => none
def mRange2 : List D → Option (List D)
  | [.int a, .int b] => if (-1000000 ≤ a ∧ a ≤ 1000000) ∧ (-1000000 ≤ b ∧ b ≤ 1000000) then some (intsD a (b - a).toNat) else none
  | _ => none
def gRange1 (f : G (List D)) : G (List D) := fun ρ st => (f ρ st).bind fun d s1 => oout (mRange1 d) s1
def gRange2 (f : G (List D)) : G (List D) := fun ρ st => (f ρ st).bind fun d s1 => oout (mRange2 d) s1
def mZip : List D → Option (List D)
  | [.tup a, .tup b] => some (zipD a b)
  | _ => none
def gZip (f : G (List D)) : G (List D) := fun ρ st => (f ρ st).bind fun d s1 => oout (mZip d) s1
section
variable {X : Cx} {W : WX} {tg : Expr}
def iSeq (K : PySem.W.Frag) (tl : TE) : TI := fun σ H R => tl σ H fun x H1 => ∃ a, x = .ref a ∧ ((∃ xs, SqL K H1 a xs ∧ R (Itl K a) H1) ∨ (∃ xs, SqT K H1 a xs ∧ R (Itt K a) H1))
theorem pi_seq {l : Expr} {tl : TE} (hl : PE X l tl) : PI X tg l (iSeq X.K tl) := by
  refine ⟨fun pins s σ H R I h => ?_⟩
  refine thn (hl.run pins s σ H _ I h) fun v s1 ⟨x, H1, I1, r1, q1⟩ => ?_
  obtain ⟨a, e, q1⟩ := q1
  subst e
  cases r1
  have fr : ∀ b, b ∈ [s1.heap.objs.size] → FpOk X pins H1 b := fun b hb => by
    have e : b = s1.heap.objs.size := by simpa using hb
    subst e
    exact I1.fpOk (Nat.le_refl _) (I1.hok.fresh (Nat.le_refl _))
  rcases q1 with ⟨xs, hq, q⟩ | ⟨xs, hq, q⟩
  · obtain ⟨its, rv, p, hz⟩ := I1.list hq
    refine wpAny_pyIter_list p.isList ?_
    exact ⟨s1.heap.objs.size, [s1.heap.objs.size], _, _, H1, rfl, I1.kept (t' := s1.toks) fun b o e => Heap.get?_push_of_some _ e, turn_list a _, ⟨_, Heap.get?_push_size _ rfl, rfl, rfl⟩, fr, q⟩
  · obtain ⟨its, rv, p, hz⟩ := I1.tuple hq
    refine wpAny_pyIter_tuple (show s1.heap.IsTuple a its.toArray from p) ?_
    exact ⟨s1.heap.objs.size, [s1.heap.objs.size], _, _, H1, rfl, I1.kept (t' := s1.toks) fun b o e => Heap.get?_push_of_some _ e, turn_tuple a _, ⟨_, Heap.get?_push_size _ rfl, rfl, rfl⟩, fr, q⟩
theorem di_seq {l : Expr} {f : G D} (h : DE X W l f) : DI X W tg l (gSeq f) := by
  refine PImono (pi_seq h) fun σ H R h => ?_
  obtain ⟨β, ρ, st, hρ, hs, h⟩ := h
  refine tD_intro hρ hs (Out.sat_bind h) (fun d s1 h1 v β1 H1 e1 S1 r1 => ?_) fun _ _ q => q
  obtain ⟨l, q, p⟩ := oout_sat h1
  cases d <;> simp only [mSeq, reduceCtorEq, Option.some.injEq] at q
  case tup m => subst q; cases r1 with | tup h1 h2 h3 => exact ⟨_, rfl, .inr ⟨_, h1, p _ β1 H1 e1 S1 (itd_t h1 h2) h3⟩⟩
  case lst m => subst q; cases r1 with | lst h1 hn h2 h3 => exact ⟨_, rfl, .inl ⟨_, SqL.of h1, p _ β1 H1 e1 S1 (itd_l (fun β' H' e => SqL.of (e.lst _ _ h1 hn).1) h2) h3⟩⟩
  case ro m => subst q; cases r1 with | ro h1 h2 h3 => exact ⟨_, rfl, .inl ⟨_, h1.sqL, p _ β1 H1 e1 S1 (itd_l (fun β' H' e => (e.sqR h1).sqL) h2) h3⟩⟩
theorem di_range1 {a : Expr} {fs : G (List D)} {p pos : Pos} (hg : Gl X "range") (hm : X.mg "range" = none) (ha : DA X W [a] fs) (hs : starEach [a] X.env = [(false, eval a X.env)] := by rfl) : DI X W tg (.Call (.Name "range" p) [a] [] pos) (gRange1 fs) := by
  refine PImono (pi_range1 hg hm ha hs) fun σ H R h => ?_
  obtain ⟨β, ρ, st, hρ, hs, h⟩ := h
  refine tDA_intro hρ hs (Out.sat_bind h) (fun d s1 h1 v β1 H1 e1 S1 r1 => ?_) fun _ _ q => q
  obtain ⟨l, q, p⟩ := oout_sat h1
  unfold mRange1 at q
  split at q
  · rename_i n
    split at q
    · rename_i hz
      cases q
      obtain ⟨v, rfl, r⟩ := r1.one
      cases r
      exact ⟨n, rfl, by omega, by omega, p _ β1 H1 e1 S1 (itd_r 0 n.toNat) (by show ((List.range n.toNat).map fun i : Nat => D.int (0 + (i : Int))).length ≤ _; rw [List.length_map, List.length_range]; exact leLIM (by show n.toNat ≤ 1000000; omega))⟩
    · cases q
  · cases q
theorem di_range2 {a b : Expr} {fs : G (List D)} {p pos : Pos} (hg : Gl X "range") (hm : X.mg "range" = none) (ha : DA X W [a, b] fs) (hs : starEach [a, b] X.env = [(false, eval a X.env), (false, eval b X.env)] := by rfl) (hs2 : starEach [b] X.env = [(false, eval b X.env)] := by rfl) : DI X W tg (.Call (.Name "range" p) [a, b] [] pos) (gRange2 fs) := by
  refine PImono (pi_range2 hg hm ha hs hs2) fun σ H R h => ?_
  obtain ⟨β, ρ, st, hρ, hs, h⟩ := h
  refine tDA_intro hρ hs (Out.sat_bind h) (fun d s1 h1 v β1 H1 e1 S1 r1 => ?_) fun _ _ q => q
  obtain ⟨l, q, p⟩ := oout_sat h1
  unfold mRange2 at q
  split at q
  · rename_i n m
    split at q
    · rename_i hz
      cases q
      obtain ⟨v, w, rfl, r, r'⟩ := r1.two
      cases r
      cases r'
      exact ⟨n, m, rfl, by omega, p _ β1 H1 e1 S1 (itd_r n (m - n).toNat) (by show ((List.range (m - n).toNat).map fun i : Nat => D.int (n + (i : Int))).length ≤ _; rw [List.length_map, List.length_range, sizeLine_eq]; omega)⟩
    · cases q
  · cases q
theorem di_zip {e e2 : Expr} {fs : G (List D)} {elts : List Expr} {kk : Nat} {tpos p pos : Pos} (hg : Gl X "zip") (hm : X.mg "zip" = none) (ha : DA X W [e, e2] fs) (hs : starEach [e, e2] X.env = (false, eval e X.env) :: starEach [e2] X.env := by rfl) (hpl : (backTo pos (starEach [e2] X.env)).any (·.1) = false := by rfl) :
    DI X W (.Tuple elts kk tpos) (.Call (.Name "zip" p) [e, e2] [] pos) (gZip fs) := by
  refine PImono (RZ.pi_zipA hg hm ha hs hpl) fun σ H R h => ?_
  obtain ⟨β, ρ, st, hρ, hs, h⟩ := h
  refine tDA_intro hρ hs (Out.sat_bind h) (fun d s1 h1 v β1 H1 e1 S1 r1 => ?_) fun _ _ q => q
  obtain ⟨l, q, p⟩ := oout_sat h1
  unfold mZip at q
  split at q
  · rename_i a b
    cases q
    obtain ⟨v, w, rfl, r, r'⟩ := r1.two
    cases r with
    | tup h1 h2 h3 =>
      cases r' with
      | tup g1 g2 g3 => exact ⟨_, _, _, _, rfl, .inr ⟨h1, g1, p _ β1 H1 e1 S1 (itd_zt h1 g1 h2 g2) (by rw [zipD_len]; omega)⟩⟩
  · cases q

/-! ### list comprehensions -/
def Out.nox {α : Type} (o : Out α) : Out α := match o with
  | .exn _ _ => .bad
  | o => o
theorem Out.nox_sat {α : Type} {o : Out α} {P : α → Sto → Prop} {E E' : Exn → Sto → Prop} (h : o.nox.sat P E) : o.sat P E' := by
  cases o with
  | ok a st => exact h
  | exn x st => exact h.elim
  | bad => exact h
def compGo (ρ : Env) (p : Pat) (t : G Bool) (e : G D) : List D → Sto → Out (List D)
  | [], st => .ok [] st
  | d :: ds, st => match Pat.set p d ρ with
    | none => .bad
    | some ρ1 => (t ρ1 st).nox.bind fun b s1 => if b then (e ρ1 s1).nox.bind fun y s2 => (compGo ρ p t e ds s2).bind fun ys s3 => .ok (y :: ys) s3 else compGo ρ p t e ds s1
def gComp (vs : List Nat) (f : G (List D)) (p : Pat) (t : G Bool) (e : G D) : G D := fun ρ st => (f ρ st).bind fun items s1 => (compGo (wipeE ρ vs) p t e items s1).bind fun ys s2 => .ok (.lst ys) s2
def gYes : G Bool := fun _ st => .ok true st
abbrev WF : WX := fun _ _ _ _ => False
abbrev DTs (X : Cx) (W : WX) (ifs : List Expr) (f : G Bool) : Prop := PTs X ifs (tDT (zOf X) X.mg W f)
theorem dts_nil : DTs X W [] gYes := by
  have h := pts_nil (X := X)
  obtain ⟨r⟩ := h
  refine ⟨fun pins s σ H Q I q => r pins s σ H Q I ?_⟩
  obtain ⟨β, ρ, st, hρ, hs, h⟩ := q
  exact h β H (Ext.refl β H) hs
theorem dts_one {c : Expr} {t : G Bool} (h : DT X W c t) : DTs X W [c] t := pts_one h
theorem compGo_len {ρ : Env} {p : Pat} {t : G Bool} {e : G D} : ∀ {ds : List D} {st : Sto} {ys : List D} {st' : Sto}, compGo ρ p t e ds st = .ok ys st' → ys.length ≤ ds.length
  | [], st, ys, st', h => by
    simp only [compGo, Out.ok.injEq] at h
    rw [← h.1]
    exact Nat.zero_le _
  | d :: ds, st, ys, st', h => by
    simp only [compGo] at h
    split at h
    · cases h
    · cases q : (t _ st).nox with
      | bad => rw [q] at h; cases h
      | exn x s => rw [q] at h; cases h
      | ok b s1 =>
        rw [q] at h
        simp only [Out.bind_ok] at h
        split at h
        · cases q2 : (e _ s1).nox with
          | bad => rw [q2] at h; cases h
          | exn x s => rw [q2] at h; cases h
          | ok y s2 =>
            rw [q2] at h
            simp only [Out.bind_ok] at h
            cases q3 : compGo ρ p t e ds s2 with
            | bad => rw [q3] at h; cases h
            | exn x s => rw [q3] at h; cases h
            | ok zs s3 =>
              rw [q3] at h
              simp only [Out.bind_ok, Out.ok.injEq] at h
              have := compGo_len q3
              rw [← h.1, List.length_cons, List.length_cons]
              omega
        · have := compGo_len h
          rw [List.length_cons]
          omega
/-- the loop of a comprehension, told by data; fin: what is wanted of the whole list at D', which the machine still holds -/
theorem lc_d {K : Zx} {mg : Str → Option Value} {vs : List Nat} {p : Pat} {t : G Bool} {e : G D} {σ : L2.St} {ρ : Env} {items : List D} {J : It} {β1 : Bx} {H1 : Hp} {s1 : Sto} {R : Addr → Hp → Prop} (hsl : ∀ i ∈ p.slots, i ∈ vs) (hl : items.length ≤ sizeLine)
    (hρ : RepEnv K β1 H1 σ ρ) (S1 : StoOk K β1 H1 s1) (it : ItD K β1 H1 J items) {D' : Addr} (hD : H1 D' = none)
    (fin : (compGo (wipeE ρ vs) p t e items s1).sat (fun ys s2 => ∀ β2 H2 xs, Ext (β1.hold D') (upd H1 D' (.lst xs)) β2 H2 → StoOk K β2 H2 s2 → H2 D' = some (.lst xs) → Reps K β2 H2 xs ys → ys.length ≤ sizeLine → R D' H2) (fun _ _ => False)) :
    ∃ Wi : Nat → Nat → Hp → Prop, (∃ m, Wi 0 m (upd H1 D' (.lst []))) ∧ ∀ i m H, Wi i m H →
      (J.stop i H ∧ R D' H) ∨ (J.go i H ∧ ∃ Nx : Hp → Prop, (∀ H', Nx H' → ∃ m', m' < m ∧ Wi (i + 1) m' H') ∧ ∀ x H', J.yld i H x H' → p.tg K x (L2.wipe σ vs) H' fun σ2 H2 => L2.wipe σ2 vs = L2.wipe σ vs ∧ tDT K mg WF t σ2 H2 fun b H3 =>
        if b = true then tD K mg WF e σ2 H3 fun y H4 => ∃ acc, H4 D' = some (.lst acc) ∧ acc.length < sizeLine ∧ Nx (upd H4 D' (.lst (acc ++ [y]))) else Nx H3) := by
  have mv0 : Mv β1 H1 (β1.hold D') (upd H1 D' (.lst [])) := Mv.hold hD
  -- the invariant: behind i items acc is made, the rest makes the whole
  let Iv : Nat → Hp → Prop := fun i H => i ≤ items.length ∧ ∃ β st acc ad, Ext (β1.hold D') (upd H1 D' (.lst acc)) β H ∧ StoOk K β H st ∧ H D' = some (.lst acc) ∧ Reps K β H acc ad ∧ ad.length ≤ i ∧
    (compGo (wipeE ρ vs) p t e (items.drop i) st).sat (fun ys s2 => ∀ β2 H2 xs, Ext (β1.hold D') (upd H1 D' (.lst xs)) β2 H2 → StoOk K β2 H2 s2 → H2 D' = some (.lst xs) → Reps K β2 H2 xs (ad ++ ys) → (ad ++ ys).length ≤ sizeLine → R D' H2) (fun _ _ => False)
  have inLo : ∀ {β : Bx} {H : Hp} {acc : List V}, Ext (β1.hold D') (upd H1 D' (.lst acc)) β H → D' ∈ β.pv ∧ D' ∉ β.lo := fun {β H acc} ex => by
    refine ⟨by rw [ex.pv]; exact List.mem_cons_self, fun z => ?_⟩
    obtain ⟨new, e1, f⟩ := ex.pre
    rw [e1] at z
    rcases List.mem_append.mp z with z | z
    · exact (S1.nmem hD).1 z
    · obtain ⟨ps, q⟩ := f D' z (.lst acc) (by rw [upd_same])
      cases q
  refine ⟨fun i m H => m = items.length - i ∧ Iv i H, ⟨items.length, by simp, Nat.zero_le _, β1.hold D', s1, [], [], Ext.refl _ _, S1.hold hD, upd_same, .nil, Nat.le_refl _, by simpa using fin⟩, ?_⟩
  rintro i m H ⟨rfl, hi, β, st, acc, ad, ex, S, hA, ra, la, go⟩
  have mvh : Mv β1 H1 β H := (Mv.hold (o := .lst acc) hD).trans ex.mv
  by_cases hlt : i < items.length
  · refine .inr ⟨it.go _ H i mvh hlt, fun H' => Iv (i + 1) H', fun H' hq => ⟨items.length - (i + 1), by omega, rfl, hq⟩, fun x H' hy => ?_⟩
    have hd : items[i]? = some items[i] := List.getElem?_eq_getElem hlt
    obtain ⟨sm, rx⟩ := it.yld _ H i x H' items[i] mvh hd hy
    have hdrop : items.drop i = items[i] :: items.drop (i + 1) := List.drop_eq_getElem_cons hlt
    rw [hdrop] at go
    simp only [compGo] at go
    split at go
    · exact go.elim
    · rename_i ρ1 hset
      have ex2 : Ext (β1.hold D') (upd H1 D' (.lst acc)) β H' := ex.trans (Ext.same sm)
      have mv1 : Mv β1 H1 β H' := (Mv.hold (o := .lst acc) hD).trans ex2.mv
      have hρ' : RepEnv K β H' (L2.wipe σ vs) (wipeE ρ vs) := RepEnv.wipe ⟨hρ.1, fun j d q => by
        obtain ⟨v, h1, h2⟩ := hρ.2 j d q
        exact ⟨v, h1, Rep.move mv1 _ _ h2⟩⟩ vs
      refine pat_ok p x items[i] _ _ ρ1 _ rx hset hρ' fun σ2 hσ2 k2 l2 => ⟨?_, ?_⟩
      · refine (wipe_same l2 fun j hj => k2 j fun z => hj (hsl j z)).trans ?_
        refine wipe_same (by rw [wipe_length]) fun j hj => ?_
        rw [wipe_get, if_neg hj]
      · have S' := S.same sm
        have hA' : H' D' = some (.lst acc) := sm _ _ hA
        refine ⟨β, ρ1, st, hσ2, S', (Out.nox_sat (Out.sat_bind go)).mono (E := fun _ _ => False) (fun b s2 hb β3 H3 e3 S3 => ?_) fun _ _ z => z.elim⟩
        have hA3 : H3 D' = some (.lst acc) := e3.keep _ _ (inLo ex).2 hA' fun ps z => by cases z
        have ex3 := ex2.trans e3
        have ra3 : Reps K β3 H3 acc ad := Reps.ext ((Ext.same sm).trans e3) _ _ ra
        cases b with
        | false => exact ⟨hlt, β3, s2, acc, ad, ex3, S3, hA3, ra3, Nat.le_succ_of_le la, hb⟩
        | true =>
          rw [if_pos rfl] at hb
          refine ⟨β3, ρ1, s2, hσ2.ext e3, S3, (Out.nox_sat (Out.sat_bind hb)).mono (E := fun _ _ => False) (fun y s4 hy4 v4 β4 H4 e4 S4 r4 => ?_) fun _ _ z => z.elim⟩
          have hA4 : H4 D' = some (.lst acc) := e4.keep _ _ (inLo ex3).2 hA3 fun ps z => by cases z
          have ex4 := ex3.trans e4
          have ra4 : Reps K β4 H4 acc ad := Reps.ext e4 _ _ ra3
          have hal : acc.length ≤ i := by rw [ra4.length]; exact la
          refine ⟨acc, hA4, by omega, hlt, β4, s4, acc ++ [v4], ad ++ [y], ?_, S4.poke (inLo ex4).1 (inLo ex4).2 hA4, upd_same, ?_, by rw [List.length_append]; simpa using la, ?_⟩
          · exact Ext.poke hD ex4 hA4
          · exact Reps.move (Mv.poke (inLo ex4).1 hA4) _ _ (ra4.append (.cons r4 .nil))
          · refine (Out.sat_bind hy4).mono (fun ys s5 h5 β5 H5 xs e5 S5 hA5 r5 l5 => ?_) fun _ _ z => z
            exact h5 β5 H5 xs e5 S5 hA5 (by simpa using r5) (by simpa using l5)
  · have e0 : i = items.length := by omega
    subst e0
    refine .inl ⟨it.stop _ H _ mvh (Nat.le_refl _), ?_⟩
    rw [List.drop_length] at go
    exact go β H acc ex S hA (by simpa using ra) (by simp only [List.append_nil]; omega)
end
end DL

set_option Elab.async false
set_option linter.all false
set_option maxRecDepth 100000
set_option maxHeartbeats 2000000
namespace DL
open PySem PySem.Spec L2
open PyProof.Rows hiding St

theorem bind_ex {α β : Type} {o : Out α} {k : α → Sto → Out β} {x : Exn} {s : Sto} (h : o.bind k = .exn x s) : o = .exn x s ∨ ∃ a s1, o = .ok a s1 ∧ k a s1 = .exn x s := by
  cases o with
  | ok a s1 => exact .inr ⟨a, s1, rfl, h⟩
  | exn y s1 => exact .inl (by cases h; rfl)
  | bad => cases h
theorem nox_ex {α : Type} {o : Out α} {x : Exn} {s : Sto} (h : o.nox = .exn x s) : False := by
  cases o <;> cases h
theorem compGo_ex {ρ : Env} {p : Pat} {t : G Bool} {e : G D} {x : Exn} {s : Sto} : ∀ {ds : List D} {st : Sto}, compGo ρ p t e ds st ≠ .exn x s
  | [], st, h => by cases h
  | d :: ds, st, h => by
    simp only [compGo] at h
    split at h
    · cases h
    · rcases bind_ex h with h | ⟨b, s1, _, h⟩
      · exact nox_ex h
      · split at h
        · rcases bind_ex h with h | ⟨y, s2, _, h⟩
          · exact nox_ex h
          · rcases bind_ex h with h | ⟨ys, s3, _, h⟩
            · exact compGo_ex h
            · cases h
        · exact compGo_ex h
theorem sat_noex {α : Type} {o : Out α} {P : α → Sto → Prop} {E E' : Exn → Sto → Prop} (h : o.sat P E) (n : ∀ x s, o ≠ .exn x s) : o.sat P E' := by
  cases o with
  | ok a st => exact h
  | exn x st => exact absurd rfl (n x st)
  | bad => exact h
/-- .. the list is one that is written -/
def gCompM (vs : List Nat) (f : G (List D)) (p : Pat) (t : G Bool) (e : G D) : G D := fun ρ st => (f ρ st).bind fun items s1 => (compGo (wipeE ρ vs) p t e items s1).bind fun ys s2 => .ok (.ref s2.length) (s2 ++ [.lst ys])
section
variable {X : Cx} {W : WX} {pos : Pos} {elt tg iter : Expr} {ifs : List Expr} {scope : Scope} {own : List (Str × Nat)} {fi : G (List D)} {p : Pat} {t : G Bool} {e : G D}
theorem inLo_of {K : Zx} {β1 β : Bx} {H1 H : Hp} {s1 : Sto} {D' : Addr} {ys : List V} (S1 : StoOk K β1 H1 s1) (hD : H1 D' = none) (ex : Ext (β1.hold D') (upd H1 D' (.lst ys)) β H) : D' ∉ β.lo := fun z => by
  obtain ⟨new, e1, f⟩ := ex.pre
  rw [e1] at z
  rcases List.mem_append.mp z with z | z
  · exact (S1.nmem hD).1 z
  · obtain ⟨ps, q⟩ := f D' z (.lst ys) (by rw [upd_same])
    cases q
theorem tLc_of {K : Zx} {mg : Str → Option Value} {vs : List Nat} {σ : L2.St} {H : Hp} {Q : VK} (hsl : ∀ i ∈ p.slots, i ∈ vs) (h : tD K mg W (gComp vs fi p t e) σ H Q) : tLc (tDI K mg W fi) (p.tg K) (tDT K mg WF t) (tD K mg WF e) vs σ H Q := by
  obtain ⟨β, ρ, st, hρ, hs, h⟩ := h
  refine ⟨β, ρ, st, hρ, hs, (Out.sat_bind h).mono (fun items s1 h1 J β1 H1 e1 S1 it hl D' hD => ?_) fun _ _ q => q⟩
  refine lc_d (R := fun D H => Q (.ref D) H) hsl hl (hρ.ext e1) S1 it hD ((sat_noex (Out.sat_bind h1) (fun _ _ => compGo_ex)).mono (fun ys s2 p2 β2 H2 xs ex S2 hA r2 l2 => ?_) fun _ _ z => z)
  have hs' : ∀ a ∈ β1.pv, a ∈ β2.pv := fun a ha => by rw [ex.pv]; exact List.mem_cons_of_mem _ ha
  exact p2 (.ref D') (β2.back β1.pv) H2 (e1.trans (Ext.held hD ex)) (S2.back hs') (.lst hA ⟨show D' ∉ β2.lo from inLo_of S1 hD ex, (S1.nmem hD).2⟩ (Reps.move (Mv.back hs') _ _ r2) l2)
theorem tLc_ofM {K : Zx} {mg : Str → Option Value} {vs : List Nat} {σ : L2.St} {H : Hp} {Q : VK} (hsl : ∀ i ∈ p.slots, i ∈ vs) (h : tD K mg W (gCompM vs fi p t e) σ H Q) : tLc (tDI K mg W fi) (p.tg K) (tDT K mg WF t) (tD K mg WF e) vs σ H Q := by
  obtain ⟨β, ρ, st, hρ, hs, h⟩ := h
  refine ⟨β, ρ, st, hρ, hs, (Out.sat_bind h).mono (fun items s1 h1 J β1 H1 e1 S1 it hl D' hD => ?_) fun _ _ q => q⟩
  refine lc_d (R := fun D H => Q (.ref D) H) hsl hl (hρ.ext e1) S1 it hD ((sat_noex (Out.sat_bind h1) (fun _ _ => compGo_ex)).mono (fun ys s2 p2 β2 H2 xs ex S2 hA r2 l2 => ?_) fun _ _ z => z)
  have hs' : ∀ a ∈ β1.pv, a ∈ β2.pv := fun a ha => by rw [ex.pv]; exact List.mem_cons_of_mem _ ha
  have hb := S2.back hs'
  have nl := inLo_of S1 hD ex
  have np := (S1.nmem hD).2
  have eh := Ext.held hD ex
  -- D' becomes the next of the written things
  have mv : Mv (β2.back β1.pv) H2 ((β2.back β1.pv).add D') H2 → True := fun _ => trivial
  have mvx : Mv β2 H2 ((β2.back β1.pv).add D') H2 := by
    have hp : D' ∈ β2.pv := by rw [ex.pv]; exact List.mem_cons_self
    refine ⟨fun a xs' ha n => ⟨ha, fun z => ?_, fun z => n.2 (hs' a z)⟩, fun _ _ q => q, fun _ _ _ q => q, fun n a q => ?_, fun _ _ q => q⟩
    · rcases List.mem_append.mp z with z | z
      · exact n.1 z
      · rw [List.mem_singleton.mp z] at n
        exact n.2 hp
    · show (β2.lo ++ [D'])[n]? = some a
      rw [List.getElem?_append_left (List.getElem?_eq_some_iff.mp q).1]
      exact q
  have So : StoOk K ((β2.back β1.pv).add D') H2 (s2 ++ [.lst ys]) := by
    refine ⟨by simp [Bx.add, Bx.back, S2.len], ?_, fun n a u q1 q2 => ?_, fun q hq => hb.priv q hq⟩
    · exact List.nodup_append.mpr ⟨S2.nd, by simp, fun x hx y hy => by rw [List.mem_singleton.mp hy]; exact fun z => nl (z ▸ hx)⟩
    · have q1 : (β2.lo ++ [D'])[n]? = some a := q1
      by_cases hn : n < β2.lo.length
      · rw [List.getElem?_append_left hn] at q1
        rw [List.getElem?_append_left (by rw [← S2.len]; exact hn)] at q2
        exact (S2.obj n a u q1 q2).move mvx fun _ z => z
      · have hn' : n = β2.lo.length := by
          have := (List.getElem?_eq_some_iff.mp q1).1
          simp at this
          omega
        subst hn'
        rw [List.getElem?_append_right (Nat.le_refl _)] at q1
        rw [S2.len, List.getElem?_append_right (Nat.le_refl _)] at q2
        simp at q1 q2
        subst q1 q2
        exact ⟨xs, hA, Reps.move mvx _ _ r2⟩
  refine p2 (.ref D') ((β2.back β1.pv).add D') H2 (e1.trans ?_) So (.ref ?_)
  · obtain ⟨new, z1, z2⟩ := eh.pre
    refine ⟨⟨new ++ [D'], ?_, fun q hq => ?_⟩, rfl, eh.keep, eh.tup, eh.frz, eh.dom, eh.cod⟩
    · show β2.lo ++ [D'] = β1.lo ++ (new ++ [D'])
      rw [← List.append_assoc, ← z1]
      rfl
    · rcases List.mem_append.mp hq with hq | hq
      · exact z2 q hq
      · rw [List.mem_singleton.mp hq]; exact Free.none hD
  · show (β2.lo ++ [D'])[s2.length]? = some D'
    rw [← S2.len]
    simp
theorem de_comp (hc : X.calm = true) (hN : X.N.Nodup) (hi : DI X W tg iter fi) (ok : BlkOk X.N X.env.scope scope own) (hsl : ∀ i ∈ p.slots, i ∈ own.map (·.2))
    (hg : ∀ (s : Shared) (H : Hp) (C : Addr) (cl : List (Str × Addr)) (fp : List Addr), DG (X.blk s H scope (compEnvC scope cl C X.env) fp) tg p) (ht : ∀ (s : Shared) (H : Hp) (C : Addr) (cl : List (Str × Addr)) (fp : List Addr), DTs (X.blk s H scope (compEnvC scope cl C X.env) fp) WF ifs t)
    (he : ∀ (s : Shared) (H : Hp) (C : Addr) (cl : List (Str × Addr)) (fp : List Addr), DE (X.blk s H scope (compEnvC scope cl C X.env) fp) WF elt e) (hs : ∀ x, foldedSetIterable iter X.env x = pure x := by intro _; rfl) :
    DE X W (.ListComp elt [⟨tg, iter, ifs, 0⟩] scope pos) (gComp (own.map (·.2)) fi p t e) :=
  PEmono (pe_lc hc hN hi ok hg ht he hs) fun _ _ _ h => tLc_of hsl h
theorem de_compM (hc : X.calm = true) (hN : X.N.Nodup) (hi : DI X W tg iter fi) (ok : BlkOk X.N X.env.scope scope own) (hsl : ∀ i ∈ p.slots, i ∈ own.map (·.2))
    (hg : ∀ (s : Shared) (H : Hp) (C : Addr) (cl : List (Str × Addr)) (fp : List Addr), DG (X.blk s H scope (compEnvC scope cl C X.env) fp) tg p) (ht : ∀ (s : Shared) (H : Hp) (C : Addr) (cl : List (Str × Addr)) (fp : List Addr), DTs (X.blk s H scope (compEnvC scope cl C X.env) fp) WF ifs t)
    (he : ∀ (s : Shared) (H : Hp) (C : Addr) (cl : List (Str × Addr)) (fp : List Addr), DE (X.blk s H scope (compEnvC scope cl C X.env) fp) WF elt e) (hs : ∀ x, foldedSetIterable iter X.env x = pure x := by intro _; rfl) :
    DE X W (.ListComp elt [⟨tg, iter, ifs, 0⟩] scope pos) (gCompM (own.map (·.2)) fi p t e) :=
  PEmono (pe_lc hc hN hi ok hg ht he hs) fun _ _ _ h => tLc_ofM hsl h
end

/-! ### statements -/
theorem xs_x {K : Zx} {mg : Str → Option Value} {W : WX} {β : Bx} {H : Hp} {σ : L2.St} {x : Exn} {st : Sto} (p : PostXS K mg W β H x st) : PostX K mg (fun c d H' => W c d σ H') β H x st := fun c d β' H' e S r => p c d σ β' H' e S r
theorem PostXS.ext {K : Zx} {mg : Str → Option Value} {W : WX} {β β' : Bx} {H H' : Hp} {x : Exn} {st : Sto} (p : PostXS K mg W β H x st) (e : Ext β H β' H') : PostXS K mg W β' H' x st := fun c d σ β2 H2 e2 => p c d σ β2 H2 (e.trans e2)
theorem PostF.ext {K : Zx} {D' : Ends} {β β' : Bx} {H H' : Hp} {f : Fl} {st : Sto} (p : PostF K D' β H f st) (e : Ext β H β' H') : PostF K D' β' H' f st := by
  cases f with
  | nx ρ => exact fun σ β2 H2 e2 => p σ β2 H2 (e.trans e2)
  | rt d => exact fun v β2 H2 e2 => p v β2 H2 (e.trans e2)
  | bk ρ => exact fun σ β2 H2 e2 => p σ β2 H2 (e.trans e2)
  | ct ρ => exact fun σ β2 H2 e2 => p σ β2 H2 (e.trans e2)
def sSet (i : Nat) (f : G D) : G Fl := fun ρ st => (f ρ st).bind fun d s1 => .ok (.nx (ρ.set i (some d))) s1
def sPat (p : Pat) (f : G D) : G Fl := fun ρ st => (f ρ st).bind fun d s1 => match Pat.set p d ρ with
  | some ρ' => .ok (.nx ρ') s1
  | none => .bad
def sPar (i j : Nat) (f : G (List D)) : G Fl := fun ρ st => (f ρ st).bind fun ds s1 => match ds with
  | [a, b] => .ok (.nx ((ρ.set i (some a)).set j (some b))) s1
  | _ => .bad
def sRet (f : G D) : G Fl := fun ρ st => (f ρ st).bind fun d s1 => .ok (.rt d) s1
def sDrop (f : G D) : G Fl := fun ρ st => (f ρ st).bind fun _ s1 => .ok (.nx ρ) s1
def sNext : G Fl := fun ρ st => .ok (.nx ρ) st
def sBreak : G Fl := fun ρ st => .ok (.bk ρ) st
def sCont : G Fl := fun ρ st => .ok (.ct ρ) st
def sBad : G Fl := fun _ _ => .bad
def sSeq (f g : G Fl) : G Fl := fun ρ st => (f ρ st).bind fun r s1 => match r with
  | .nx ρ' => g ρ' s1
  | r => .ok r s1
def sIf (t : G Bool) (f g : G Fl) : G Fl := fun ρ st => (t ρ st).bind fun k s1 => if k then f ρ s1 else g ρ s1
def sAug (m : D → D → Sto → Option D) (i : Nat) (f : G D) : G Fl := fun ρ st => (gVar i ρ st).bind fun x s0 => (f ρ s0).bind fun d s1 => (oout (m x d s1) s1).bind fun z s1 => .ok (.nx (ρ.set i (some z))) s1
def forGo (p : Pat) (b : G Fl) : List D → Env → Sto → Out Fl
  | [], ρ, st => .ok (.nx ρ) st
  | d :: ds, ρ, st => match Pat.set p d ρ with
    | none => .bad
    | some ρ1 => (b ρ1 st).bind fun r s1 => match r with
      | .nx ρ' => forGo p b ds ρ' s1
      | .ct ρ' => forGo p b ds ρ' s1
      | .bk ρ' => .ok (.nx ρ') s1
      | .rt d => .ok (.rt d) s1
def sFor (f : G (List D)) (p : Pat) (b : G Fl) : G Fl := fun ρ st => (f ρ st).bind fun items s1 => forGo p b items ρ s1
section
variable {X : Cx} {W : WX} {pos : Pos} {a b c e tg iter : Expr} {es : List Expr} {f g : G D} {t : G Bool} {fs : G (List D)} {st : Stmt} {rest : List Stmt} {u v : G Fl}
theorem ds_set (i : Nat) {x : Str} {pos' : Pos} (hN : X.N.Nodup) (hi : X.N[i]? = some x) (hx : Loc X.env.scope x) (he : DE X W e f) (hs : swapsWith e (some (.Name x pos')) pos.line X.env = pure false := by rfl)
    (hf : X.fn x = true ∨ X.env.scope.names.lookup x = some .local := by first | exact .inl rfl | exact .inr rfl | assumption) : DS X W (.Assign [.Name x pos'] e pos) (sSet i f) := by
  refine PSmono (ps_set hN hi hx he hs hf) fun D' σ H h => ?_
  obtain ⟨β, ρ, st, hρ, hs, h⟩ := h
  refine tD_intro hρ hs (Out.sat_bind h) (fun d s1 h1 v β1 H1 e1 S1 r1 => ?_) fun _ _ q => xs_x q
  exact h1 _ β1 H1 e1 S1 ((hρ.ext e1).set i r1)
theorem ds_pat {p : Pat} (he : DE X W e f) (hg : DG X tg p) (hs : swapsWithSole [tg] e pos.line X.env = pure false := by rfl) (hw : swappedStores [tg] e X.env = pure none := by rfl)
    (h1 : (assignEach [tg] X.env).map (·.2) = [assign tg X.env] := by rfl) : DS X W (.Assign [tg] e pos) (sPat p f) := by
  refine PSmono (ps_asg he hg hs hw h1) fun D' σ H h => ?_
  obtain ⟨β, ρ, st, hρ, hs, h⟩ := h
  refine tD_intro hρ hs (Out.sat_bind h) (fun d s1 h1 v β1 H1 e1 S1 r1 => ?_) fun _ _ q => xs_x q
  split at h1
  · rename_i ρ' hp
    exact pat_ok p v d σ ρ ρ' _ r1 hp (hρ.ext e1) fun σ' hσ' _ _ => h1 σ' β1 H1 e1 S1 hσ'
  · exact h1.elim
theorem ds_par {i j : Nat} {x y : Str} {px py pt : Pos} {kt k2 pt2} (hc : X.calm = true) (hN : X.N.Nodup) (hi : X.N[i]? = some x) (hj : X.N[j]? = some y) (hij : i ≠ j)
    (hx : X.env.scope.names.lookup x = some .local) (hy : X.env.scope.names.lookup y = some .local) (ha : DA X W [a, b] fs)
    (hw : swappedStores [.Tuple [.Name x px, .Name y py] kt pt] (.Tuple [a, b] k2 pt2) X.env = pure (some [x, y]))
    (hs : swapsWithSole [.Tuple [.Name x px, .Name y py] kt pt] (.Tuple [a, b] k2 pt2) pos.line X.env = pure false := by rfl) :
    DS X W (.Assign [.Tuple [.Name x px, .Name y py] kt pt] (.Tuple [a, b] k2 pt2) pos) (sPar i j fs) := by
  refine PSmono (ps_par hc hN hi hj hij hx hy ha hw hs) fun D' σ H h => ?_
  obtain ⟨β, ρ, st, hρ, hs, h⟩ := h
  refine tDA_intro hρ hs (Out.sat_bind h) (fun ds s1 h1 vs β1 H1 e1 S1 r1 => ?_) fun _ _ q => xs_x q
  split at h1
  · rename_i d1 d2
    obtain ⟨v, w, rfl, q1, q2⟩ := r1.two
    exact ⟨v, w, rfl, h1 _ β1 H1 e1 S1 (((hρ.ext e1).set i q1).set j q2)⟩
  · exact h1.elim
theorem ds_ret (he : DE X W e f) : DS X W (.Return (some e) pos) (sRet f) := by
  refine PSmono (ps_ret he) fun D' σ H h => ?_
  obtain ⟨β, ρ, st, hρ, hs, h⟩ := h
  exact tD_intro hρ hs (Out.sat_bind h) (fun d s1 h1 v β1 H1 e1 S1 r1 => h1 v β1 H1 e1 S1 r1) fun _ _ q => xs_x q
theorem ds_retN : DS X W (.Return none pos) (sRet (gC .non)) := by
  refine PSmono ps_retN fun D' σ H h => ?_
  obtain ⟨β, ρ, st, hρ, hs, h⟩ := h
  exact h .non β H (Ext.refl β H) hs .non
theorem ds_expr (he : DE X W e f) (hs : swapsWith e none pos.line X.env = pure false := by rfl) : DS X W (.Expr e pos) (sDrop f) := by
  refine PSmono (ps_expr he hs) fun D' σ H h => ?_
  obtain ⟨β, ρ, st, hρ, hs, h⟩ := h
  exact tD_intro hρ hs (Out.sat_bind h) (fun d s1 h1 v β1 H1 e1 S1 r1 => h1 σ β1 H1 e1 S1 (hρ.ext e1)) fun _ _ q => xs_x q
theorem ds_next {st : Stmt} (h : PS X st tNext) : DS X W st sNext := PSmono h fun D' σ H h => by
  obtain ⟨β, ρ, st, hρ, hs, h⟩ := h
  exact h σ β H (Ext.refl β H) hs hρ
theorem ds_doc {x j pos'} : DS X W (.Expr (.Constant (.str x) j pos) pos') sNext := ds_next ps_doc
theorem ds_pass : DS X W (.Pass pos) sNext := ds_next ps_pass
theorem ds_break : DS X W (.Break pos) sBreak := PSmono ps_break fun D' σ H h => by
  obtain ⟨β, ρ, st, hρ, hs, h⟩ := h
  exact h σ β H (Ext.refl β H) hs hρ
theorem ds_cont : DS X W (.Continue pos) sCont := PSmono ps_continue fun D' σ H h => by
  obtain ⟨β, ρ, st, hρ, hs, h⟩ := h
  exact h σ β H (Ext.refl β H) hs hρ
/-- what is never come to -/
theorem ds_bad {st : Stmt} : DS X W st sBad := ⟨fun _ _ _ _ _ _ h => by
  obtain ⟨_, _, _, _, _, h⟩ := h
  exact h.elim⟩
theorem dss_bad {st : List Stmt} : DSs X W st sBad := ⟨fun _ _ _ _ _ _ h => by
  obtain ⟨_, _, _, _, _, h⟩ := h
  exact h.elim⟩
theorem dss_nil : DSs X W [] sNext := PSsmono pss_nil fun D' σ H h => by
  obtain ⟨β, ρ, st, hρ, hs, h⟩ := h
  exact h σ β H (Ext.refl β H) hs hρ
theorem dss_one (h : DS X W st u) : DSs X W [st] u := pss_one h
theorem seq_post {K : Zx} {mg : Str → Option Value} {g : G Fl} {D' : Ends} {β : Bx} {H : Hp} {r : Fl} {s1 : Sto} (h : (match r with | .nx ρ' => g ρ' s1 | r => .ok r s1 : Out Fl).sat (PostF K D' β H) (PostXS K mg W β H)) : PostF K { D' with nx := tDS K mg W g D' } β H r s1 := by
  cases r with
  | nx ρ => exact fun σ β' H' e S r => ⟨β', ρ, s1, r, S, h.mono (fun _ _ q => q.ext e) fun _ _ q => q.ext e⟩
  | rt d => exact h
  | bk ρ => exact h
  | ct ρ => exact h
theorem dss_cons (h1 : DS X W st u) (h2 : DSs X W rest v) : DSs X W (st :: rest) (sSeq u v) := by
  refine PSsmono (pss_cons h1 h2) fun D' σ H h => ?_
  obtain ⟨β, ρ, st, hρ, hs, h⟩ := h
  exact ⟨β, ρ, st, hρ, hs, (Out.sat_bind h).mono (fun r s1 q => seq_post q) fun _ _ q => q⟩
theorem ds_if {sa sb : List Stmt} (hc : DT X W c t) (ha : DSs X W sa u) (hb : DSs X W sb v) : DS X W (.If c sa sb pos) (sIf t u v) := by
  refine PSmono (ps_if hc ha hb) fun D' σ H h => ?_
  obtain ⟨β, ρ, st, hρ, hs, h⟩ := h
  refine tDT_intro hρ hs (Out.sat_bind h) (fun k s1 h1 β1 H1 e1 S1 => ?_) fun _ _ q => xs_x q
  cases k with
  | true => exact ⟨β1, ρ, s1, hρ.ext e1, S1, Out.sat.mono h1 (fun _ _ z => z.ext e1) fun _ _ z => z.ext e1⟩
  | false => exact ⟨β1, ρ, s1, hρ.ext e1, S1, Out.sat.mono h1 (fun _ _ z => z.ext e1) fun _ _ z => z.ext e1⟩
theorem ds_for {p : Pat} {fi : G (List D)} {body : List Stmt} (hp : PassesOwn (model X.prog X.w) X.A X.env X.xe) (hc : X.calm = true) (hi : DI X W tg iter fi) (hg : DG X tg p) (hb : DSs X W body u)
    (hs : ∀ x, foldedSetIterable iter X.env x = pure x := by intro _; rfl) : DS X W (.For tg iter body [] pos) (sFor fi p u) := by
  refine PSmono (ps_for hp hc hi hg hb hs) fun D' σ H h => ?_
  obtain ⟨β, ρ, st, hρ, hs, h⟩ := h
  refine ⟨β, ρ, st, hρ, hs, (Out.sat_bind h).mono (fun items s1 h1 J β1 H1 e1 S1 it hl => ?_) fun _ _ q => xs_x q⟩
  let Iv : Nat → L2.St → Hp → Prop := fun i σ H' => i ≤ items.length ∧ ∃ β' ρ' st', Ext β1 H1 β' H' ∧ RepEnv (zOf X) β' H' σ ρ' ∧ StoOk (zOf X) β' H' st' ∧ (forGo p u (items.drop i) ρ' st').sat (PostF (zOf X) D' β H) (PostXS (zOf X) X.mg W β H)
  refine ⟨fun i m σ H => m = items.length - i ∧ Iv i σ H, ⟨items.length, by simp, Nat.zero_le _, β1, ρ, s1, Ext.refl _ _, hρ.ext e1, S1, by simpa using h1⟩, ?_⟩
  rintro i m σ' H' ⟨rfl, hi, β', ρ', st', ex, hρ', S', go⟩
  by_cases hlt : i < items.length
  · refine .inr ⟨it.go _ _ i ex.mv hlt, fun σ H => Iv (i + 1) σ H, fun σ2 H2 hq => ⟨items.length - (i + 1), by omega, rfl, hq⟩, fun x H2 hy => ?_⟩
    have hd : items[i]? = some items[i] := List.getElem?_eq_getElem hlt
    obtain ⟨sm, rx⟩ := it.yld _ _ i x H2 items[i] ex.mv hd hy
    have hdrop : items.drop i = items[i] :: items.drop (i + 1) := List.drop_eq_getElem_cons hlt
    rw [hdrop] at go
    simp only [forGo] at go
    split at go
    · exact go.elim
    · rename_i ρ1 hset
      have ex2 := ex.trans (Ext.same (β := β') sm)
      refine pat_ok p x items[i] _ _ ρ1 _ rx hset (hρ'.ext (Ext.same sm)) fun σ3 hσ3 _ _ => ?_
      refine ⟨β', ρ1, st', hσ3, S'.same sm, (Out.sat_bind go).mono (fun r s4 h4 => ?_) fun _ _ q => q.ext (e1.trans ex2)⟩
      cases r with
      | nx ρ4 => exact fun σ4 β4 H4 e4 S4 r4 => ⟨hlt, β4, ρ4, s4, ex2.trans e4, r4, S4, h4⟩
      | ct ρ4 => exact fun σ4 β4 H4 e4 S4 r4 => ⟨hlt, β4, ρ4, s4, ex2.trans e4, r4, S4, h4⟩
      | bk ρ4 => exact fun σ4 β4 H4 e4 S4 r4 => h4 σ4 β4 H4 ((e1.trans ex2).trans e4) S4 r4
      | rt d => exact fun v4 β4 H4 e4 S4 r4 => h4 v4 β4 H4 ((e1.trans ex2).trans e4) S4 r4
  · have e0 : i = items.length := by omega
    subst e0
    refine .inl ⟨it.stop _ _ _ ex.mv (Nat.le_refl _), ?_⟩
    rw [List.drop_length] at go
    exact go σ' β' H' (e1.trans ex) S' hρ'
end

/-! ### defs -/
def spD (K : Zx) (mg : Str → Option Value) (n : Nat) (m : List D → Sto → Out D) : Sp := fun vs H Q E => ∃ β ds st, Reps K β H vs ds ∧ StoOk K β H st ∧ vs.length = n ∧ (m ds st).sat (PostV K Q β H) (PostX K mg E β H)
abbrev FnD (P : Program) (w : World) (K : PySem.W.Frag) (mg : Str → Option Value) (base : Heap) (k : Nat) (f : Addr) (fd : FuncData) (ps : List Str) (m : List D → Sto → Out D) : Prop := FnOk P w K mg base (L2.CX P w) k f fd ps (spD ⟨P, K, w, base⟩ mg ps.length m)
def endD (r : Fl) (st : Sto) : Out D := match r with
  | .rt d => .ok d st
  | .nx _ => .ok .non st
  | _ => .bad
def gFun (n : Nat) (g : G Fl) : List D → Sto → Out D := fun ds st => (g (ds.map some ++ List.replicate (n - ds.length) none) st).bind endD
section
variable {P : Program} {w : World} {K : PySem.W.Frag} {mg : Str → Option Value} {base : Heap}
theorem start_env {K : Zx} {β : Bx} {H : Hp} {N : List Str} {vs : List V} {ds : List D} (r : Reps K β H vs ds) : RepEnv K β H (L2.start N vs) (ds.map some ++ List.replicate (N.length - ds.length) none) := by
  refine ⟨by simp [L2.start, r.length], fun i d q => ?_⟩
  by_cases hi : i < ds.length
  · rw [List.getElem?_append_left (by simpa using hi), List.getElem?_map] at q
    cases e : ds[i]? with
    | none => rw [e] at q; cases q
    | some d' =>
      rw [e] at q
      have q := Option.some.inj (Option.some.inj q)
      subst q
      obtain ⟨v, hv, rv⟩ := r.get e
      refine ⟨v, ?_, rv⟩
      unfold L2.start
      rw [List.getElem?_append_left (by rw [List.length_map, r.length]; exact hi), List.getElem?_map, hv]
      rfl
  · rw [List.getElem?_append_right (by simpa using hi)] at q
    rw [List.getElem?_replicate] at q
    split at q <;> cases q
abbrev WE' (E : XK) : WX := fun cls d _ H => E cls d H
theorem fnD_of {x qual : Str} {st : Stmt} {f : Addr} {fd : FuncData} {N ps : List Str} {k : Nat} {g : G Fl} (F : Fun K x qual st f fd) (S : FnScope N ps (defScope st))
    (hb : ∀ (cdv : Value) (A : Around) (outer : List PySem.Env) (s : Shared) (H : Hp) (E : XK), Room k (A.deeper (envOfC qual (defScope st) s.heap.objs.size f cdv)) →
      DSs (cxOf (L2.CX P w) P w K mg base N qual (defScope st) f cdv A outer s H E) (WE' E) (defBody st) g) : FnD P w K mg base (k + 1) f fd ps (gFun N.length g) := by
  refine F.okX S (fun vs H Q E h => ?_) (fun cdv A outer s H vs Q E hr h => ?_)
  · obtain ⟨β, ds, st, r, S, hl, h⟩ := h
    exact hl
  · obtain ⟨β, ds, st, r, S, hl, h⟩ := h
    refine ⟨_, hb cdv A outer s H E hr, β, _, st, start_env r, S, (Out.sat_bind h).mono (fun r s1 q => ?_) fun _ _ q => fun c d σ β' H' e S r => q c d β' H' e S r⟩
    cases r with
    | nx ρ => exact fun σ β' H' e S r => q .non β' H' e S .non
    | rt d => exact q
    | bk ρ => exact q.elim
    | ct ρ => exact q.elim
theorem FnD.imp {k : Nat} {f : Addr} {fd : FuncData} {ps : List Str} {m m' : List D → Sto → Out D} (F : FnD P w K mg base k f fd ps m) (h : ∀ ds st, m' ds st ≠ .bad → m ds st = m' ds st) : FnD P w K mg base k f fd ps m' :=
  FnOk.imp F fun vs H Q E ⟨β, ds, st, r, S, hl, q⟩ => ⟨β, ds, st, r, S, hl, by
    rw [h ds st fun z => by rw [z] at q; exact q]
    exact q⟩
end
def gCall (m : List D → Sto → Out D) (f : G (List D)) : G D := fun ρ st => (f ρ st).bind fun ds s1 => m ds s1
section
variable {X : Cx} {W : WX} {pos p : Pos} {x : Str} {e : Expr} {es : List Expr} {fs : G (List D)} {k : Nat} {f : Addr} {fd : FuncData} {ps : List Str} {m : List D → Sto → Out D}
theorem de_call (F : FnD X.prog X.w X.K X.mg X.base k f fd ps m) (tk : Takes X W) (hr : Room k X.A) (hg : Gl X x) (hm : X.mg x = some (.ref f)) (hk : PySem.W.keepIn X.K (.ref f) = true) (hb : Binds X.K fd ps []) (hl : (e :: es).length = ps.length)
    (ha : DA X W (e :: es) fs) (hdb : (x == ("__debug__" : Str)) = false := by decide) (he : starEach (e :: es) X.env = (false, eval e X.env) :: starEach es X.env := by rfl) (hpl : (backTo pos (starEach es X.env)).any (·.1) = false := by rfl) (hfl : ∀ ρ st ds s1, fs ρ st = .ok ds s1 → ds.length = (e :: es).length) :
    DE X W (.Call (.Name x p) (e :: es) [] pos) (gCall m fs) := by
  refine PEmono (pe_callS (E := fun σ => WE W σ) F hr hg hm hk hb (fun σ => passAt tk σ) ha hdb he hpl) fun σ H Q h => ?_
  obtain ⟨β, ρ, st, hρ, hs, h⟩ := h
  have h := Out.sat_bind h
  cases q : fs ρ st with
  | bad => rw [q] at h; exact h.elim
  | exn x s => exact ⟨β, ρ, st, hρ, hs, by rw [q] at h ⊢; exact h⟩
  | ok ds s1 =>
    refine ⟨β, ρ, st, hρ, hs, ?_⟩
    rw [q] at h ⊢
    refine fun vs β1 H1 e1 S1 r1 => ⟨β1, ds, s1, r1, S1, by rw [r1.length, hfl _ _ _ _ q, hl], Out.sat.mono h (fun _ _ z => z.ext e1) fun _ _ z => z.ext e1⟩
end
end DL

set_option Elab.async false
set_option linter.all false
set_option maxRecDepth 100000
set_option maxHeartbeats 2000000
namespace DL
open PySem PySem.Spec L2
open PyProof.Rows hiding St
theorem hu65 {k : Nat} {A : Around} (r : Room k A) : A.units + 65 < cLine := by have := r.un; omega
theorem hu64 {k : Nat} {A : Around} (r : Room k A) : A.units + 64 < cLine := by have := r.un; omega
theorem hu1 {k : Nat} {A : Around} (r : Room k A) : A.units + 1 < cLine := by have := r.un; omega
abbrev AL (g : G (List D)) (n : Nat) : Prop := ∀ ρ st ds s1, g ρ st = .ok ds s1 → ds.length = n
theorem al_nil : AL aNil 0 := fun ρ st ds s1 h => by
  cases h
  rfl
theorem al_cons {f : G D} {g : G (List D)} {n : Nat} (h : AL g n) : AL (aCons f g) (n + 1) := fun ρ st ds s1 e => by
  unfold aCons at e
  cases q : f ρ st with
  | bad => rw [q] at e; cases e
  | exn x s => rw [q] at e; cases e
  | ok d s =>
    rw [q] at e
    simp only [Out.bind_ok] at e
    cases q2 : g ρ s with
    | bad => rw [q2] at e; cases e
    | exn x s => rw [q2] at e; cases e
    | ok ds' s' =>
      rw [q2] at e
      simp only [Out.bind_ok, Out.ok.injEq] at e
      rw [← e.1, List.length_cons, h _ _ _ _ q2]
section
variable {X : Cx} {W : WX}
/-- name = [..] on one line, the name a local -/
theorem ds_setLc (i : Nat) {y : Str} {py : Pos} {elt tg iter : Expr} {ifs : List Expr} {scope : Scope} {own : List (Str × Nat)} {pos spos : Pos} {fi : G (List D)} {p : Pat} {t : G Bool} {e : G D} (hc : X.calm = true) (hN : X.N.Nodup) (hy : X.N[i]? = some y) (hyl : X.env.scope.names.lookup y = some .local)
    (hsw : swapsWith (.ListComp elt [⟨tg, iter, ifs, 0⟩] scope pos) (some (.Name y py)) spos.line X.env = pure true) (hi : DI X W tg iter fi) (ok : BlkOk X.N X.env.scope scope own) (hsl : ∀ i ∈ p.slots, i ∈ own.map (·.2))
    (hg : ∀ (s : Shared) (H : Hp) (C : Addr) (cl : List (Str × Addr)) (fp : List Addr), DG (X.blk s H scope (compEnvC scope cl C X.env) fp) tg p) (ht : ∀ (s : Shared) (H : Hp) (C : Addr) (cl : List (Str × Addr)) (fp : List Addr), DTs (X.blk s H scope (compEnvC scope cl C X.env) fp) WF ifs t)
    (he : ∀ (s : Shared) (H : Hp) (C : Addr) (cl : List (Str × Addr)) (fp : List Addr), DE (X.blk s H scope (compEnvC scope cl C X.env) fp) WF elt e) (hs : ∀ x, foldedSetIterable iter X.env x = pure x := by intro _; rfl) :
    DS X W (.Assign [.Name y py] (.ListComp elt [⟨tg, iter, ifs, 0⟩] scope pos) spos) (sSet i (gComp (own.map (·.2)) fi p t e)) := by
  refine PSmono (ps_setLc (g := p.tg (zOf X)) (tt := tDT (zOf X) X.mg WF t) (te := tD (zOf X) X.mg WF e) hc hN hy hyl hsw hi ok hg ht he hs) fun D' σ H h => ?_
  show tLc _ _ _ _ _ σ H _
  refine tLc_of (W := W) hsl ?_
  obtain ⟨β, ρ, st, hρ, hs, h⟩ := h
  exact tD_intro hρ hs (Out.sat_bind h) (fun d s1 h1 v β1 H1 e1 S1 r1 => h1 _ β1 H1 e1 S1 ((hρ.ext e1).set i r1)) fun _ _ q => xs_x q
theorem ds_setLcM (i : Nat) {y : Str} {py : Pos} {elt tg iter : Expr} {ifs : List Expr} {scope : Scope} {own : List (Str × Nat)} {pos spos : Pos} {fi : G (List D)} {p : Pat} {t : G Bool} {e : G D} (hc : X.calm = true) (hN : X.N.Nodup) (hy : X.N[i]? = some y) (hyl : X.env.scope.names.lookup y = some .local)
    (hsw : swapsWith (.ListComp elt [⟨tg, iter, ifs, 0⟩] scope pos) (some (.Name y py)) spos.line X.env = pure true) (hi : DI X W tg iter fi) (ok : BlkOk X.N X.env.scope scope own) (hsl : ∀ i ∈ p.slots, i ∈ own.map (·.2))
    (hg : ∀ (s : Shared) (H : Hp) (C : Addr) (cl : List (Str × Addr)) (fp : List Addr), DG (X.blk s H scope (compEnvC scope cl C X.env) fp) tg p) (ht : ∀ (s : Shared) (H : Hp) (C : Addr) (cl : List (Str × Addr)) (fp : List Addr), DTs (X.blk s H scope (compEnvC scope cl C X.env) fp) WF ifs t)
    (he : ∀ (s : Shared) (H : Hp) (C : Addr) (cl : List (Str × Addr)) (fp : List Addr), DE (X.blk s H scope (compEnvC scope cl C X.env) fp) WF elt e) (hs : ∀ x, foldedSetIterable iter X.env x = pure x := by intro _; rfl) :
    DS X W (.Assign [.Name y py] (.ListComp elt [⟨tg, iter, ifs, 0⟩] scope pos) spos) (sSet i (gCompM (own.map (·.2)) fi p t e)) := by
  refine PSmono (ps_setLc (g := p.tg (zOf X)) (tt := tDT (zOf X) X.mg WF t) (te := tD (zOf X) X.mg WF e) hc hN hy hyl hsw hi ok hg ht he hs) fun D' σ H h => ?_
  show tLc _ _ _ _ _ σ H _
  refine tLc_ofM (W := W) hsl ?_
  obtain ⟨β, ρ, st, hρ, hs, h⟩ := h
  exact tD_intro hρ hs (Out.sat_bind h) (fun d s1 h1 v β1 H1 e1 S1 r1 => h1 _ β1 H1 e1 S1 ((hρ.ext e1).set i r1)) fun _ _ q => xs_x q

/-! ### a written dict with text keys: d.get(k), d[k] -/
/-- what the dict at d holds -/
def KTab (K : Zx) (d : Addr) (tab : List (Str × D)) : Prop := ∀ z : Str, ∃ r, PySem.W.nsIn K d z = some r ∧ match tab.lookup z with
  | some x => ∃ u v, r = some u ∧ RelV v u ∧ ∀ β H, Rep K β H v x
  | none => r = none
def gKGet (tab : List (Str × D)) (f : G D) : G D := fun ρ st => (f ρ st).bind fun k s1 => match k with
  | .str z => .ok ((tab.lookup z).getD .non) s1
  | _ => .bad
def gKIx (tab : List (Str × D)) (f : G D) : G D := fun ρ st => (f ρ st).bind fun k s1 => match k with
  | .str z => oout (tab.lookup z) s1
  | _ => .bad
theorem de_kget {d : Addr} {es : Array DictEntry} {n : Nat} {tab : List (Str × D)} {o e : Expr} {apos cpos : Pos} {f : G D} (D' : KDict X.K X.w d es n) (T : KTab (zOf X) d tab) (ho : PE X o (tC (.ref d))) (he : DE X W e f) (m : M1 X o "get" apos e cpos) :
    DE X W (.Call (.Attribute o "get" apos) [e] [] cpos) (gKGet tab f) := by
  refine ⟨fun pins s σ H Q I h => ?_⟩
  obtain ⟨β, ρ, st, hρ, hs, h⟩ := h
  have he' : tD (zOf X) X.mg W f σ H (fun y H1 => ∃ z r v, y = .str z ∧ PySem.W.nsIn X.K d z = some r ∧ RelV v (r.getD .none) ∧ Q v H1) := by
    refine tD_intro hρ hs (Out.sat_bind h) (fun k s1 h1 v β1 H1 e1 S1 r1 => ?_) fun _ _ q => q
    cases k with
    | str z =>
      cases r1
      obtain ⟨r, hr, t⟩ := T z
      have h1 : PostV (zOf X) Q β H ((tab.lookup z).getD .non) s1 := h1
      cases q : tab.lookup z with
      | none =>
        rw [q] at t h1
        exact ⟨z, r, .non, rfl, hr, by rw [show r = none from t]; rfl, h1 .non β1 H1 e1 S1 .non⟩
      | some x =>
        rw [q] at t h1
        obtain ⟨u, v, e2, rv, rp⟩ := t
        exact ⟨z, r, v, rfl, hr, by rw [e2]; exact rv, h1 v β1 H1 e1 S1 (rp β1 H1)⟩
    | _ => exact h1.elim
  refine wpAny_Call_method m.base m.few m.line PySem.F.plainAttrs_dict PySem.F.slot_dict_get PySem.F.type_dict_get (thn (ho.run pins s σ H (fun x H1 => x = .ref d ∧ H1 = H) I ⟨rfl, rfl⟩) fun u s1 ⟨x, H1, I1, rx, ex, eH⟩ => ?_)
  subst ex eH
  obtain rfl : u = Value.ref d := rx
  refine ⟨kd_type D' I1, fun b q => ?_, ?_⟩
  · cases q
    exact ⟨_, I1.kIn _ _ D'.at_, rfl⟩
  · rw [m.trees]
    refine Calls.callWith_builtin rfl (Calls.evalArgs_plain (Calls.spliced_cons (thn (he.run pins s1 σ H1 _ I1 he') fun iv s2 ⟨y, H2, I2, ry, z, r, v, ey, hr, rv, q⟩ => Calls.spliced_nil ?_)))
    subst ey
    obtain ⟨t, rfl⟩ := ry
    refine call_meetsIn PySem.F.slot_dict_get (kd_type D' I2) PySem.F.entry_dict_get (PySem.F.args_dict_get_2 _ _) (meets_dict_get (strKind X.prog X.w) d (PySem.strKind_is X.prog X.w z t) D'.low) ⟨_, PySem.W.mapOf_K (prog := X.prog) I2.kIn D'.at_ D'.lit, ?_⟩
    rw [PySem.W.find_K D'.at_ hr]
    exact ⟨v, H2, I2.tok _, rv, q⟩
theorem pe_K {x : Str} {d : Addr} {pos : Pos} (hg : Gl X x) (hm : X.mg x = some (.ref d)) (hd : (x == ("__debug__" : Str)) = false := by decide) : PE X (.Name x pos) (tC (.ref d)) := pe_glob hg hm rfl hd
end
end DL

set_option Elab.async false
set_option linter.all false
set_option maxRecDepth 100000
set_option maxHeartbeats 2000000
namespace DL
open PySem PySem.Spec L2
open PyProof.Rows hiding St
theorem takesF {X : Cx} : Takes X WF := takes0
def mNeg : D → Sto → Option D
  | .int i, _ => some (.int (-i))
  | _, _ => none
section
variable {K : Zx}
theorem ud_neg : UnD K (rU fun i => .int (-i)) mNeg := by
  intro β H st x dx d Q rx S e q
  cases dx <;> simp only [mNeg, Option.some.injEq, reduceCtorEq] at e
  cases rx; subst e
  exact ⟨_, rfl, q _ _ (Same.refl H) (.int _)⟩
end
section
variable {X : Cx} {W : WX} {pos : Pos} {f g : G D} {e o : Expr}
/-- {} -/
def gDctM : G D := fun _ st => .ok (.ref st.length) (st ++ [.dK []])
theorem de_dnew : DE X W (.Dict [] [] pos) gDctM := by
  refine PEmono pe_dnewK fun σ H Q h => ?_
  obtain ⟨β, ρ, st, hρ, hs, h⟩ := h
  intro p hp
  refine h (.ref p) (β.add p) _ (Ext.grow hp) (hs.grow hp ⟨[], upd_same, rfl, rfl, .nil⟩) (.ref ?_)
  rw [← hs.len]
  simp [Bx.add]
/-! ### isinstance(x, (c1, c2)) -/
def rIsiS (K : PySem.W.Frag) : List V → Hp → VK → Prop := fun xs H Q => ∃ (x : V) (tp : Addr) (cs : List V) (t : Value) (us : List Value) (b : Bool), xs = [x, .ref tp] ∧ SqT K H tp cs ∧ Paired ClsV cs us ∧ TyX K H x t ∧ PySem.W.kitAny K t us = some b ∧ Q (.bl b) H
theorem call_isiS : CallR X (.builtin "isinstance") (rIsiS X.K) := by
  intro pins s σ H xs us Q I r h
  obtain ⟨x, tp, cs, t, ws, b, rfl, hT, k, ty, e, q⟩ := h
  obtain ⟨u1, u2, rfl, r1, r2⟩ := vals2 r
  cases (show u2 = Value.ref tp from r2)
  obtain ⟨P, Z, p, hx⟩ := kit_of I r1 ty
  obtain ⟨its, rv, ⟨o, h1, h2, n, h3⟩, _⟩ := I.tuple hT
  have e3 := ClsV.all k rv
  subst e3
  obtain ⟨oc, od, dt, sl⟩ := o
  simp only at h2 h3
  subst h2 h3
  exact PySem.W.kia_tup Z I.kIn p h1 e hx fun tk => ⟨.bl b, H, I.tok tk, rfl, q⟩
def isiAny (a : String) : List D → Option Bool
  | [] => some false
  | .raw (.ty b) :: r => match isiB a b, isiAny a r with
    | some x, some y => some (x || y)
    | _, _ => none
  | _ => none
def mIsiT : List D → Sto → Option D
  | [d, .tup cs], st => match tyD d st with
    | some a => (isiAny a cs).map D.bl
    | none => none
  | _, _ => none
theorem isiAny_kit {K : Zx} {β : Bx} {H : Hp} {a : String} : ∀ {cs : List D} {xs : List V} {b : Bool}, Reps K β H xs cs → isiAny a cs = some b → ∃ us, Paired ClsV xs us ∧ PySem.W.kitAny K (.type a) us = some b
  | [], _, b, r, e => by
    cases r
    cases e
    exact ⟨[], .nil, kitAny_nil⟩
  | .raw (.ty c) :: cs, _, b, r, e => by
    cases r with
    | cons r1 r2 =>
      simp only [isiAny] at e
      split at e
      · rename_i x y hx hy
        cases e
        obtain ⟨us, h1, h2⟩ := isiAny_kit r2 hy
        cases r1
        refine ⟨_, .cons (.ty c) h1, kitAny_cons (kit_ty (isiB_kit hx)) (fun z => ?_) fun z => ?_⟩
        · rw [z]; exact h2
        · rw [z]; rfl
      · cases e
theorem cd_isiT {K : Zx} : CallD K (rIsiS K) mIsiT := by
  intro β H st xs ds d Q r S e q
  match ds, r, e with
  | [x, .tup cs], r, e =>
    obtain ⟨v, w, rfl, r1, r2⟩ := r.two
    simp only [mIsiT] at e
    split at e
    · rename_i a ha
      rw [Option.map_eq_some_iff] at e
      obtain ⟨k, hk, e⟩ := e
      subst e
      cases r2 with
      | tup h1 h2 h3 =>
        obtain ⟨us, p, z⟩ := isiAny_kit h2 hk
        exact ⟨v, _, _, _, us, k, rfl, h1, p, tyD_x r1 S ha, z, q _ _ (Same.refl H) (.bl _)⟩
    · cases e

/-! ### writing: xs[i] = v, d[k] = v -/
def setSto (st : Sto) (n : Nat) (o : SO) : Sto := st.set n o
/-- o[i] = v -/
def mPut (o i v : D) (st : Sto) : Option Sto := match o, i with
  | .ref n, .int k => match st[n]? with
    | some (.lst l) => (ixN l.length k).map fun j => st.set n (.lst (l.set j v))
    | _ => none
  | _, _ => none
def sPut (fo fi fv : G D) : G Fl := fun ρ st => (fv ρ st).bind fun v s1 => (fo ρ s1).bind fun o s2 => (fi ρ s2).bind fun i s3 => match mPut o i v s3 with
  | some s4 => .ok (.nx ρ) s4
  | none => .bad
theorem Ext.write {β : Bx} {H : Hp} {a : Addr} {n : Nat} {o u : HO} (hm : β.lo[n]? = some a) (ha : H a = some u) (nt : ∀ xs, u ≠ .tup xs) (nf : ∀ ob w, u ≠ .frz ob w) (nc : ∀ c q, u ≠ LamX.CodeO c q := by intro _ _ z; cases z) (no : ∀ ps, o ≠ .tbl ps := by intro _ z; cases z) : Ext β H β (upd H a o) := by
  have ne : ∀ b w, H b = some w → w ≠ u → b ≠ a := fun b w q n z => by
    rw [z, ha] at q
    exact n (Option.some.inj q).symm
  refine ⟨⟨[], by simp, by simp⟩, rfl, fun b w hb hw hn => ?_, fun b xs q => ?_, fun b ob w q => ?_, fun b w q n => ?_, fun c q' z => ?_⟩
  · rw [upd_ne fun z => hb (by rw [z]; exact List.mem_iff_getElem?.mpr ⟨n, hm⟩)]
    exact hw
  · rw [upd_ne (ne b _ q fun z => nt xs z.symm)]
    exact q
  · rw [upd_ne (ne b _ q fun z => nf ob w z.symm)]
    exact q
  · by_cases hb : b = a
    · exact ⟨o, by rw [hb, upd_same], no⟩
    · exact ⟨w, by rw [upd_ne hb]; exact q, n⟩
  · rw [upd_ne (ne c _ z fun y => nc c q' y.symm)]
    exact z
theorem StoOk.write {K : Zx} {β : Bx} {H : Hp} {st : Sto} {a : Addr} {n : Nat} {o : HO} {so : SO} (S : StoOk K β H st) (hm : β.lo[n]? = Option.some a) (e : Ext β H β (upd H a o)) (r : SORel K β (upd H a o) a so) : StoOk K β (upd H a o) (st.set n so) := by
  refine ⟨by rw [List.length_set]; exact S.len, S.nd, fun m b u h1 h2 => ?_, fun p hp => ?_⟩
  · by_cases hn : n = m
    · subst hn
      rw [hm] at h1
      cases h1
      rw [List.getElem?_set_self (by rw [← S.len]; exact (List.getElem?_eq_some_iff.mp hm).1)] at h2
      cases h2
      exact r
    · rw [List.getElem?_set_ne hn] at h2
      refine (S.obj m b u h1 h2).move e.mv fun w q => ?_
      rw [upd_ne fun z => hn ?_]
      · exact q
      · subst z
        obtain ⟨q1, e1⟩ := List.getElem?_eq_some_iff.mp hm
        obtain ⟨q2, e2⟩ := List.getElem?_eq_some_iff.mp h1
        exact (List.getElem_inj S.nd).mp (e1.trans e2.symm)
  · obtain ⟨w, hw, nw⟩ := S.priv p hp
    exact e.dom p w hw nw
theorem ds_put {i v : Expr} {fo fi fv : G D} {tpos : Pos} (ho : DE X W o fo) (hi : DE X W i fi) (hv : DE X W v fv) (ha : ∀ u, assign (.Subscript o i tpos) X.env u = (do
      let ov ← holding [u] (eval o X.env)
      let iv ← holding [u, ov] (eval i X.env)
      standAt tpos
      holding [u, ov, iv] (setItem ov iv u)
      release [u, ov, iv] []) := by intro _; rfl) (hs : swapsWithSole [.Subscript o i tpos] v pos.line X.env = pure false := by rfl) (hw : swappedStores [.Subscript o i tpos] v X.env = pure none := by rfl)
    (h1 : (assignEach [.Subscript o i tpos] X.env).map (·.2) = [assign (.Subscript o i tpos) X.env] := by rfl) : DS X W (.Assign [.Subscript o i tpos] v pos) (sPut fo fi fv) := by
  refine PSmono (ps_asg hv (pg_sub ho hi set_list ha) hs hw h1) fun D' σ H h => ?_
  obtain ⟨β, ρ, st, hρ, hs, h⟩ := h
  refine tD_intro hρ hs (Out.sat_bind h) (fun dv s1 h1 v β1 H1 e1 S1 r1 => ?_) fun _ _ q => xs_x q
  refine tD_intro (hρ.ext e1) S1 (Out.sat_bind h1) (fun d_o s2 h2 vo β2 H2 e2 S2 r2 => ?_) fun _ _ q => (xs_x q).ext e1
  refine tD_intro ((hρ.ext e1).ext e2) S2 (Out.sat_bind h2) (fun di s3 h3 vi β3 H3 e3 S3 r3 => ?_) fun _ _ q => ((xs_x q).ext e1).ext e2
  unfold mPut at h3
  split at h3
  · rename_i s4 hp
    split at hp
    · rename_i n k
      have r2' := Rep.ext e3 _ _ r2
      cases r3
      cases r2' with
      | ref hm =>
        obtain ⟨so, hso, rel⟩ := S3.get hm
        rw [hso] at hp
        cases so with
        | lst l =>
          obtain ⟨xs, hH, rxs⟩ := rel
          simp only [Option.map_eq_some_iff] at hp
          obtain ⟨j, hj, hp⟩ := hp
          subst hp
          refine ⟨_, xs, k, j, rfl, rfl, hH, by rw [rxs.length]; exact hj, ?_⟩
          have ew := Ext.write (o := .lst (xs.set j v)) hm hH (fun _ z => by cases z) fun _ _ z => by cases z
          have rv := Rep.ext ew _ _ (Rep.ext (e2.trans e3) _ _ r1)
          exact h3 σ β3 _ (((e1.trans e2).trans e3).trans ew) (S3.write hm ew ⟨_, upd_same, (Reps.ext ew _ _ rxs).set rv j⟩) ((((hρ.ext e1).ext e2).ext e3).ext ew)
        | dK l => cases hp
        | tab _ _ => cases hp
        | dN _ => cases hp
        | ins _ _ => cases hp
        | fN _ => cases hp
    · cases hp
  · exact h3.elim
/-! ### appending -/
def mLstAt (o : D) (st : Sto) : Option (Nat × List D) := match o with
  | .ref n => match st[n]? with
    | some (.lst l) => some (n, l)
    | _ => none
  | _ => none
theorem mLstAt_ok {K : Zx} {β : Bx} {H : Hp} {st : Sto} {o : D} {v : V} {n : Nat} {l : List D} (h : mLstAt o st = some (n, l)) (r : Rep K β H v o) (S : StoOk K β H st) : o = .ref n ∧ ∃ a xs, v = .ref a ∧ β.lo[n]? = some a ∧ H a = some (.lst xs) ∧ Reps K β H xs l := by
  unfold mLstAt at h
  split at h
  · rename_i m
    split at h
    · rename_i l' hl
      cases h
      cases r with
      | ref hm =>
        obtain ⟨so, hso, rel⟩ := S.get hm
        rw [hl] at hso
        cases hso
        obtain ⟨xs, hH, rx⟩ := rel
        exact ⟨rfl, _, xs, rfl, hm, hH, rx⟩
    · cases h
  · cases h
def gAppend (fo fv : G D) : G D := fun ρ st => (fo ρ st).bind fun o s1 => match mLstAt o s1 with
  | none => .bad
  | some _ => (fv ρ s1).bind fun v s2 => match mLstAt o s2 with
    | some (n, l) => if l.length < LIM then .ok .non (s2.set n (.lst (l ++ [v]))) else .bad
    | none => .bad
theorem de_append {o e : Expr} {fo fv : G D} {apos cpos : Pos} (ho : DE X W o fo) (he : DE X W e fv)
    (hbase : attributeBase o "append" X.env (eval o X.env) = eval o X.env := by rfl)
    (hfew : ((backTo cpos (starEach (e :: []) X.env)).all (fun x => !x.1) && (backToKw cpos (keywordEach [] X.env)).all (fun x => x.1.isSome)
      && decide ((e :: ([] : List Expr)).length + ([] : List Keyword).length + (if ([] : List Keyword).isEmpty then 0 else 1) < 30)) = true := by rfl)
    (hline : (apos.endLine == cpos.line) = true := by rfl) (hs : starEach (e :: []) X.env = (false, eval e X.env) :: starEach [] X.env := by rfl) (hplain : (backTo cpos (starEach [] X.env)).any (·.1) = false := by rfl) :
    DE X W (.Call (.Attribute o "append" apos) [e] [] cpos) (gAppend fo fv) := by
  refine PEmono (pe_bm PySem.F.plainAttrs_list PySem.F.slot_list_append PySem.F.type_list_append mt_append ho (pa_cons he pa_nil hs) hbase hfew hline hs hplain) fun σ H Q h => ?_
  obtain ⟨β, ρ, st, hρ, hs, h⟩ := h
  refine tD_intro hρ hs (Out.sat_bind h) (fun d_o s1 h1 vo β1 H1 e1 S1 r1 => ?_) fun _ _ q => q
  split at h1
  · exact h1.elim
  · rename_i z hz
    obtain ⟨n, l1⟩ := z
    obtain ⟨rfl, a, xs1, rfl, hm, hH1, rx1⟩ := mLstAt_ok hz r1 S1
    refine ⟨.inl ⟨rfl, _, .inl (.inl hH1)⟩, ?_⟩
    refine tD_intro (hρ.ext e1) S1 (Out.sat_bind h1) (fun dv s2 h2 v β2 H2 e2 S2 r2 => ?_) fun _ _ q => q.ext e1
    split at h2
    · rename_i n' l hz2
      obtain ⟨e3, a', xs, e4, hm2, hH, rx⟩ := mLstAt_ok hz2 (Rep.ref (e2.mem hm)) S2
      cases e3
      cases e4
      split at h2
      · rename_i hlt
        have hl := rx.length
        refine ⟨_, xs, v, rfl, rfl, hH, by rw [hl, sizeLine_eq]; exact Nat.lt_trans hlt (by decide), ?_⟩
        have ew := Ext.write (o := .lst (xs ++ [v])) hm2 hH (fun _ z => by cases z) fun _ _ z => by cases z
        exact h2 .non β2 _ ((e1.trans e2).trans ew) (S2.write hm2 ew ⟨_, upd_same, (Reps.ext ew _ _ rx).append (.cons (Rep.ext ew _ _ r2) .nil)⟩) .non
      · exact h2.elim
    · exact h2.elim
end
end DL

set_option Elab.async false
set_option linter.all false
set_option maxRecDepth 100000
set_option maxHeartbeats 2000000
/-! # sorted(set(texts)): a set of texts, its members in order -/
namespace DL
open PySem PySem.Spec L2
open PyProof.Rows hiding St

def keyS (e : Int × Value) : Str := match e.2 with
  | .str x _ => x
  | _ => Str.empty
def isTxt (P : Program) (w : World) (e : Int × Value) : Prop := ∃ x tk, e.2 = Value.str x tk ∧ e.1 = (strKind P w).hash x
/-- the set at a: its members S, n of them; it may be walked -/
structure TxtSet (P : Program) (w : World) (h : Heap) (a : Addr) (S : Str → Bool) (n : Nat) : Prop where
  all : ∃ o es ep t, h.get? a = some o ∧ o.ExactSet ∧ o.data = .set es ep t ∧ (∀ e ∈ es.toList, isTxt P w e) ∧ (es.toList.map keyS).Nodup ∧ (∀ x, S x = true ↔ x ∈ es.toList.map keyS) ∧
    es.size < scanBound ∧ t.fits es.size = true ∧ es.size = n ∧ Ris t.place.toList ∧ (w.params.followText "set-order" = true ∨ t.led = true)
section
variable {P : Program} {w : World} {h h' : Heap} {a : Addr} {S : Str → Bool} {n : Nat}
theorem TxtSet.stay (R : TxtSet P w h a S n) (k : ∀ o, h.get? a = some o → h'.get? a = some o) : TxtSet P w h' a S n := by
  obtain ⟨o, es, ep, t, q, r⟩ := R.all
  exact ⟨⟨o, es, ep, t, k o q, r⟩⟩
theorem TxtSet.cg {S' : Str → Bool} {n' : Nat} (R : TxtSet P w h a S n) (e : ∀ x, S' x = S x) (en : n' = n) : TxtSet P w h a S' n' := by
  have : S' = S := funext e
  subst this en
  exact R
theorem txt_elems {l : List (Int × Value)} (g : ∀ e ∈ l, isTxt P w e) : ElemsOf (strKind P w) l := fun e he => by
  obtain ⟨x, tk, e1, e2⟩ := g e he
  rw [e1]
  exact ⟨⟨x, strKind_is P w x tk, e2⟩, rfl⟩
theorem txt_is {e : Int × Value} (g : isTxt P w e) (x : Str) : (strKind P w).is x e.2 = true ↔ keyS e = x := by
  obtain ⟨y, tk, e1, _⟩ := g
  have hy := strKind_is P w y tk
  constructor
  · intro z
    rw [e1] at z
    unfold keyS
    rw [e1]
    exact (strKind P w).inj _ _ _ hy z
  · intro z
    unfold keyS at z
    rw [e1] at z ⊢
    have z : y = x := z
    subst z
    exact hy
theorem txt_mem {l : List (Int × Value)} (g : ∀ e ∈ l, isTxt P w e) (x : Str) : x ∈ l.map keyS ↔ ∃ e ∈ l, (strKind P w).is x e.2 = true := by
  rw [List.mem_map]
  constructor
  · rintro ⟨e, he, q⟩
    exact ⟨e, he, (txt_is (g e he) x).mpr q⟩
  · rintro ⟨e, he, q⟩
    exact ⟨e, he, (txt_is (g e he) x).mp q⟩
theorem TxtSet.setOf (R : TxtSet P w h a S n) : h.SetOf (strKind P w) a S n := by
  obtain ⟨o, es, ep, t, ho, hx, hd, g, nd, hm, hb, hf, hn, _⟩ := R.all
  exact ⟨o, es, ep, t, ho, hx, hd, txt_elems g, fun k => (hm k).trans (txt_mem g k), hb, hf, hn⟩
end
section
variable {P : Program} {w : World} {A : Around} {E : Value → Shared → Prop} {s : Shared} {a : Addr} {S : Str → Bool} {n : Nat}
theorem txt_tail {g : Bool → Sem Unit} (hg : ∀ (b : Bool) (s₁ : Shared) (Q' : Unit → Shared → Prop), Q' () s₁ → wpAny (model P w) A (g b) Q' E s₁) {o : Obj} {es : Array (Int × Value)} {ep : Nat} {t : SetTable} (ho : s.heap.get? a = some o) (hex : o.ExactSet) (hd : o.data = .set es ep t)
    {e1 : Array (Int × Value)} {t2 : SetTable} {S' : Str → Bool} (g1 : ∀ e ∈ e1.toList, isTxt P w e) (nd : (e1.toList.map keyS).Nodup) (m1 : ∀ k, S' k = true ↔ k ∈ e1.toList.map keyS) (hb : e1.size < scanBound) (hf : t2.fits e1.size = true) (hr : Ris t2.place.toList) (hl : w.params.followText "set-order" = true ∨ t2.led = true)
    {was : Bool} {R : Option Bool → Shared → Prop} (hR : ∀ h', Heap.SameBut a s.heap h' → TxtSet P w h' a S' e1.size → R (some true) { s with heap := h' }) :
    wpAny (model P w) A (do storeSet a e1 t2; if (!was && t2.tooFull) = true then do { g (relayAll t2 e1 (SetTable.grown e1.size)).2.2; storeSet a (relayAll t2 e1 (SetTable.grown e1.size)).1 (relayAll t2 e1 (SetTable.grown e1.size)).2.1; pure (some true) } else pure (some true)) R E s := by
  refine wpAny_bind (wpAny_storeSet_of ho hd ?_ (fits_of_scanBound hb))
  have q1 := store_at (es' := e1) (t' := t2) ho hd
  have sb := Heap.SameBut.update s.heap a (Obj.putSet e1 t2)
  by_cases hc : (!was && t2.tooFull) = true
  · rw [if_pos hc]
    have pm := relayAll_perm t2 e1 (SetTable.grown e1.size)
    have f3 := relayAll_fits t2 e1 (SetTable.grown e1.size)
    have r3 := relayAll_ris t2 e1 (SetTable.grown e1.size)
    have l3 := relayAll_led t2 e1 (SetTable.grown e1.size)
    revert pm f3 r3 l3
    generalize relayAll t2 e1 (SetTable.grown e1.size) = Z
    obtain ⟨e2, t3, gave⟩ := Z
    intro pm f3 r3 l3
    dsimp only at pm f3 r3 l3 ⊢
    have hz : e2.size = e1.size := by
      have := pm.length_eq
      rwa [Array.length_toList, Array.length_toList] at this
    refine wpAny_bind (hg _ _ _ (wpAny_bind (wpAny_storeSet_of q1 rfl (wpAny_pure (hR _ (sb.trans (Heap.SameBut.update _ a _)) ?_)) (fits_of_scanBound (by rw [hz]; exact hb)))))
    exact ⟨⟨_, e2, _, t3, store_at q1 rfl, hex, rfl, fun e he => g1 e (pm.mem_iff.mp he), (pm.map keyS).nodup_iff.mpr nd, fun k => (m1 k).trans (pm.map keyS).mem_iff.symm, by rw [hz]; exact hb, f3, hz, r3, hl.imp id fun z => by rw [l3]; exact z⟩⟩
  · rw [if_neg hc]
    exact wpAny_pure (hR _ sb ⟨⟨_, e1, _, t2, q1, hex, rfl, g1, nd, m1, hb, hf, rfl, hr, hl⟩⟩)
theorem txt_put {x : Str} {tk : Tok} {Q : Bool → Shared → Prop} (R : TxtSet P w s.heap a S n) (room : n + 1 < scanBound)
    (hQ : ∀ h', Heap.SameBut a s.heap h' → TxtSet P w h' a (fun j => S j || decide (j = x)) (if S x = true then n else n + 1) → Q (!S x) { s with heap := h' }) : wpAny (model P w) A (setAddHashed a (.str x tk) ((strKind P w).hash x)) Q E s := by
  obtain ⟨o, es, ep, t, ho, hex, hd, g, nd, hm, hb, hf, hn, hr, hl⟩ := R.all
  have hk := strKind_is P w x tk
  have hsc : (Value.str x tk).scannable = true := rfl
  have hel := txt_elems g
  unfold setAddHashed setAddHashedIn
  refine wpAny_holding (wpAny_bind (wpAny_setState_of ho hd hf ?_))
  dsimp only
  rw [byScan_of hsc hb hel]
  simp only [↓reduceIte]
  unfold setAddByScan
  refine wpAny_bind (wpAny_bind (wpAny_rule (wpAny_bind (wpAny_setScan_of hk ho hd hf hel ?_))))
  cases hfi : List.findIdx? (fun e => (strKind P w).is x e.2) es.toList with
  | some j =>
    obtain ⟨hj, pj, _⟩ := List.findIdx?_eq_some_iff_getElem.mp hfi
    have hS : S x = true := (hm x).2 ((txt_mem g x).2 ⟨es.toList[j], List.getElem_mem hj, pj⟩)
    have q := hQ s.heap (Heap.SameBut.refl a s.heap) (R.cg (fun i => by
      by_cases e : i = x
      · subst e; simp [hS]
      · simp [e]) (by rw [if_pos hS]))
    rw [hS] at q
    exact wpAny_pure (wpAny_pure q)
  | none =>
    have no : x ∉ es.toList.map keyS := fun z => by
      obtain ⟨e, he, q⟩ := (txt_mem g x).1 z
      have c := List.findIdx?_eq_none_iff.mp hfi e he
      rw [q] at c
      cases c
    have hS : S x = false := by
      cases q : S x with
      | false => rfl
      | true => exact absurd ((hm x).1 q) no
    have gw : ∀ (b : Bool) {s₁ : Shared} {Q' : Unit → Shared → Prop}, Q' () s₁ → wpAny (model P w) A (match b with | true => rule "set.scan.the-table-gave-way" | false => pure ()) Q' E s₁ := fun b s₁ Q' q => by
      cases b
      · exact wpAny_pure q
      · exact wpAny_rule q
    dsimp only
    have pm := layNew_perm t es ((strKind P w).hash x) (.str x tk)
    have f1 := layNew_fits t es ((strKind P w).hash x) (.str x tk)
    have r1 := layNew_ris t es ((strKind P w).hash x) (.str x tk) hr
    have l1 := layNew_led t es ((strKind P w).hash x) (.str x tk)
    revert pm f1 r1 l1
    generalize layNew t es ((strKind P w).hash x) (.str x tk) = Z
    obtain ⟨e1, t1, was, gave⟩ := Z
    intro pm f1 r1 l1
    dsimp only at pm f1 r1 l1 ⊢
    rw [Array.toList_push] at pm
    have pc : e1.toList.Perm (((strKind P w).hash x, Value.str x tk) :: es.toList) := pm.trans (List.perm_append_singleton _ _)
    have pk : (e1.toList.map keyS).Perm (x :: es.toList.map keyS) := pc.map keyS
    have g1 : ∀ e ∈ e1.toList, isTxt P w e := fun e he => (List.mem_cons.mp (pc.mem_iff.mp he)).elim (fun z => by rw [z]; exact ⟨x, tk, rfl, rfl⟩) (g e)
    have nd1 : (e1.toList.map keyS).Nodup := pk.nodup_iff.mpr (List.nodup_cons.mpr ⟨no, nd⟩)
    have m1 : ∀ i, (S i || decide (i = x)) = true ↔ i ∈ e1.toList.map keyS := fun i => by
      rw [Bool.or_eq_true, decide_eq_true_eq, hm i, pk.mem_iff, List.mem_cons]
      exact Or.comm
    have hz : e1.size = n + 1 := by
      have := pc.length_eq
      rw [Array.length_toList, List.length_cons, Array.length_toList] at this
      omega
    have hb1 : e1.size < scanBound := by rw [hz]; exact room
    have ld : w.params.followText "set-order" = true ∨ t1.led = true := hl.imp id fun z => by rw [l1]; exact z
    have fin : ∀ h', Heap.SameBut a s.heap h' → TxtSet P w h' a (fun j => S j || decide (j = x)) e1.size → Q true { s with heap := h' } := fun h' sb r => by
      have q := hQ h' sb
      rw [hS] at q
      rw [hz] at r
      exact q r
    refine wpAny_bind (gw _ ?_)
    have gg : ∀ (b : Bool) (s₁ : Shared) (Q' : Unit → Shared → Prop), Q' () s₁ → wpAny (model P w) A (match b with | true => rule "set.scan.the-table-gave-way" | false => pure ()) Q' E s₁ := fun b s₁ Q' q => gw b q
    split
    · refine wpAny_bind ?_
      rw [hashByValue_scannable 8 hsc]
      refine wpAny_pure (txt_tail ?_ ho hex hd g1 nd1 m1 hb1 ?_ ?_ ?_ fun h' sb r => ?_)
      · intro b s₁ Q' q
        cases b
        · first | exact wpAny_pure q | exact wpAny_rule q
        · first | exact wpAny_rule q | exact wpAny_pure q
      · first | exact f1 | (split <;> first | exact f1 | exact SetTable.fits_plain_off f1)
      · first | exact r1 | (split <;> exact r1)
      · first | exact ld | (split <;> exact ld)
      · exact wpAny_pure (fin h' sb r)
    · refine wpAny_bind (wpAny_pure ?_)
      simp only [↓reduceIte]
      refine txt_tail ?_ ho hex hd g1 nd1 m1 hb1 f1 r1 ld fun h' sb r => wpAny_pure (fin h' sb r)
      intro b s₁ Q' q
      cases b
      · first | exact wpAny_pure q | exact wpAny_rule q
      · first | exact wpAny_rule q | exact wpAny_pure q
end
end DL
namespace DL
open PySem PySem.Spec L2
open PyProof.Rows hiding St
theorem strsAre_get : ∀ {us : List Value} {xs : List Str}, StrsAre us xs → ∀ (i : Nat) (v : Value), us[i]? = some v → ∃ x t, xs[i]? = some x ∧ v = .str x t
  | _, _, .nil, i, v, h => by simp at h
  | _, _, .cons x t hr, 0, v, h => ⟨x, t, rfl, (Option.some.inj (by simpa using h)).symm⟩
  | _, _, .cons x t hr, i + 1, v, h => strsAre_get hr i v (by simpa using h)
section
variable {prog : Program} {w : World} {A : Around} {R : Result → Shared → Prop} {I : Addr} {fp wr : List Addr} {G : Array GenState → Array GenState → Prop} {n : Nat} {P : Nat → Value → Prop} {St : Nat → Shared → Prop}
/-- the members that come from a walk of texts -/
theorem txt_loop (W : WalksS prog w A.in1 I fp wr G n P St) (S : Addr) (hSf : S ∉ fp) (xs : List Str) (hz : xs.length = n) (hb : n + 1 < scanBound) (hval : ∀ i v, P i v → ∃ x t, xs[i]? = some x ∧ v = .str x t) :
    ∀ (k i m : Nat) (s : Shared), n - i = k → i ≤ n → m ≤ i → St i s → TxtSet prog w s.heap S (fun x => decide (x ∈ xs.take i)) m →
      (∀ s' m', Moved (S :: wr) G s s' → m' ≤ n → TxtSet prog w s'.heap S (fun x => decide (x ∈ xs)) m' → R (.ok (.ret .none)) s') →
      codeAny (model prog w) A (.builtin "set.update.loop" ⟨[.ref S, .ref I], []⟩) R s := by
  have hSw : S ∉ wr := fun h => hSf (W.sub _ h)
  have sub : ∀ b ∈ wr, b ∈ S :: wr := fun b hb => List.mem_cons_of_mem _ hb
  intro k
  induction k with
  | zero =>
    intro i m s hk hi hm hst hS hR
    have e : i = n := by omega
    subst e
    refine codeAny_builtin PyProof.Rows.F.entry_set_update_loop ?_
    rw [Around.under_plainId PyProof.Rows.F.plain_set_update_loop _]
    show wpAny _ A.in1 (pyNext (.ref I) >>= _) _ _ s
    refine wpAny_bind (W.done s _ _ hst fun s' mv => ?_)
    show wpAny _ A.in1 (ret Value.none) _ _ s'
    refine wpAny_pure (hR s' m (mv.mono sub) hm ((hS.stay fun o => mv.heap S o hSw).cg (fun x => ?_) rfl))
    rw [← hz, List.take_length]
  | succ k ih =>
    intro i m s hk hi hm hst hS hR
    have lt : i < n := by omega
    refine codeAny_builtin PyProof.Rows.F.entry_set_update_loop ?_
    rw [Around.under_plainId PyProof.Rows.F.plain_set_update_loop _]
    show wpAny _ A.in1 (pyNext (.ref I) >>= _) _ _ s
    refine wpAny_bind (W.item i s _ _ lt hst fun v s' hP hst' mv => ?_)
    obtain ⟨x, t, hx, rfl⟩ := hval i v hP
    have S1 := hS.stay fun o => mv.heap S o hSw
    show wpAny _ A.in1 (holding [Value.str x t] (setAdd S (.str x t)) >>= _) _ _ s'
    refine wpAny_bind (wpAny_holding ?_)
    unfold setAdd
    refine wpAny_holding (wpAny_bind ((strKind prog w).pyHash (k := x) (strKind_is _ _ _ _) ?_))
    refine txt_put (s := { s' with toks := s'.toks + 1 }) S1 (by omega) fun h' sb S2 => ?_
    have tk : xs.take (i + 1) = xs.take i ++ [x] := by rw [List.take_add_one, hx]; rfl
    have S3 : TxtSet prog w h' S (fun y => decide (y ∈ xs.take (i + 1))) (if decide (x ∈ xs.take i) = true then m else m + 1) := S2.cg (fun y => by
      rw [tk]
      by_cases h1 : y ∈ xs.take i <;> by_cases h2 : y = x <;> simp [h1, h2]) rfl
    refine wpAny_pure ⟨plainId_quiet PyProof.Rows.F.plain_set_update_loop _, ih (i + 1) _ _ (by omega) lt ?_ (W.frame _ s' _ _ hst' (Nat.le_succ _) fun b hb o e => ?_) S3 fun s'' m' mv2 hm' hS' => ?_⟩
    · split <;> omega
    · rw [sb.2 b (fun z : b = S => hSf (by rw [← z]; exact hb))]
      exact e
    · refine hR s'' m' (Moved.trans W.gtrans ((mv.mono sub).then_heap (Nat.le_succ _) fun b o hb e => ?_) mv2) hm' hS'
      rw [sb.2 b (fun z : b = S => hb (by rw [z]; exact List.mem_cons_self))]
      exact e
end
section
variable {prog : Program} {w : World} {A : Around} {E : Value → Shared → Prop} {s : Shared}
/-- set.__new__ of one argument: the empty set, with its ledger as the settings say -/
theorem txt_new (a : Value) {Q₁ : Value → Shared → Prop}
    (h : Q₁ (.ref s.heap.objs.size) { s with heap := s.heap.push { cls := .type "set", dict := none, data := .set #[] 0 (.fresh 0 0 (!w.params.followText "set-order")) } }) :
    codeAny (model prog w) A (.call (.builtin "set.__new__") ⟨[.type "set", a], []⟩) (wants Q₁ E) s := by
  refine codeAny_of_tree ?_
  show wpAny _ A.in1 (do checkBuiltinCall "set.__new__" ⟨[.type "set", a], []⟩; again (.builtin "set.__new__" ⟨[.type "set", a], []⟩)) _ _ s
  refine wpAny_bind (wpAny_of_eq (show checkBuiltinCall "set.__new__" ⟨[.type "set", a], []⟩ = pure () by kernel_rfl) (wpAny_pure ⟨plainId_quiet PySem.F.plain_set_new _, codeAny_builtin PySem.F.entry_set_new ?_⟩))
  rw [Around.under_plainId PySem.F.plain_set_new _]
  unfold Builtin.«set.__new__» Builtin.Frozenset.newClass
  have hsub : isSubtype (.type "set") (.type "set") = pure true := by rw [isSubtype_type]; kernel_rfl
  obtain ⟨hp, g, d, tk, os⟩ := s
  dsimp only
  wp_walk
  refine wpAny_askSetting (wpAny_pure ?_)
  dsimp only
  simp only [newObj]
  exact wpAny_bind (wpAny_alloc (wpAny_pure (wpAny_pure h)))

/-- set(t), t a tuple of texts -/
theorem txt_of_tuple {l : Addr} {items : Array Value} {xs : List Str} {Q : Value → Shared → Prop} (hh : A.handled = none) (hl : s.heap.IsTuple l items) (hi : StrsAre items.toList xs) (hb : xs.length + 1 < scanBound)
    (h : ∀ (h' : Heap) (tk m : Nat), m ≤ xs.length → TxtSet prog w h' s.heap.objs.size (fun x => decide (x ∈ xs)) m → (∀ b o, b < s.heap.objs.size → s.heap.get? b = some o → h'.get? b = some o) → s.heap.objs.size ≤ h'.objs.size → Q (.ref s.heap.objs.size) { s with heap := h', toks := tk }) :
    wpAny (model prog w) A (call (.type "set") [.ref l]) Q E s := by
  obtain ⟨c, tl, hmro⟩ := PySem.F.called_set.mro
  have made := PySem.F.called_set.made
  have sub := PySem.F.called_set.sub
  refine wpAny_call (codeAny_of_tree ?_)
  show wpAny _ _ (callAny (.type "set") _) _ _ _
  refine wpAny_pure ⟨Code.quiet_builtin _ (by decide +kernel), codeAny_builtin PySem.F.entry_type_call ?_⟩
  rw [Around.under_plain (weight_type_call_type "set" [.ref l] []) rfl]
  have n1 := PySem.F.called_set.notType
  have n2 := PySem.F.called_set.canCreate
  have n3 := PySem.F.typeCall_set_1 (.ref l)
  repeat (any_goals (first | assumption | wp_step))
  refine codeAny_mono (txt_new (.ref l) (E := E) (Q₁ := fun obj s₁ => obj = .ref s.heap.objs.size ∧ s₁ = { s with heap := s.heap.push { cls := .type "set", dict := none, data := .set #[] 0 (.fresh 0 0 (!w.params.followText "set-order")) } }) ⟨rfl, rfl⟩) fun r s₁ hr => ?_
  cases r with
  | error e => exact hr
  | ok fl =>
    cases fl with
    | ret obj =>
      obtain ⟨rfl, rfl⟩ := hr
      generalize hled : (!w.params.followText "set-order") = led
      have hS : (s.heap.push { cls := .type "set", dict := none, data := .set #[] 0 (.fresh 0 0 led) }).get? s.heap.objs.size = some { cls := .type "set", dict := none, data := .set #[] 0 (.fresh 0 0 led) } := Heap.get?_push_size _ rfl
      have hT : Shared.TypeIs { s with heap := s.heap.push { cls := .type "set", dict := none, data := .set #[] 0 (.fresh 0 0 led) } } (.ref s.heap.objs.size) "set" := ⟨_, hS, rfl⟩
      have i1 := PySem.F.called_set.init.lookup
      have i2 := PySem.F.called_set.init.bind (.ref s.heap.objs.size)
      repeat (any_goals (first | assumption | wp_step))
      refine codeAny_mono (codeAny_call_builtin (R := wants (fun r s₂ => r = .none ∧ ∃ h' tk m, s₂ = { s with heap := h', toks := tk } ∧ m ≤ xs.length ∧ TxtSet prog w h' s.heap.objs.size (fun x => decide (x ∈ xs)) m ∧
          (∀ b o, b < s.heap.objs.size → s.heap.get? b = some o → h'.get? b = some o) ∧ s.heap.objs.size ≤ h'.objs.size) E) PySem.F.called_set.init.plain PySem.F.entry_set_init (check_set_init_1 hT ?_)) fun r₂ s₂ hr₂ => ?_
      · obtain ⟨ol, hol, hcl, nl, hdl⟩ := hl
        obtain ⟨ocls, odict, odata, oslots⟩ := ol
        simp only at hcl hdl
        subst hcl hdl
        have hol' : (s.heap.push { cls := .type "set", dict := none, data := .set #[] 0 (.fresh 0 0 led) }).get? l = some { cls := .type "tuple", dict := odict, data := .seq items nl, slots := oslots } := Heap.get?_push_of_some _ hol
        have u1 := PySem.F.sub_tuple_set
        have u2 := PySem.F.sub_tuple_frozenset
        have u3 : (Value.type "tuple" == Value.type "dict") = false := by decide
        have hl1 : (s.heap.push { cls := .type "set", dict := none, data := .set #[] 0 (.fresh 0 0 led) }).IsTuple l items := ⟨_, hol', rfl, nl, rfl⟩
        unfold Builtin.«set.__init__» noKeywords Builtin.Frozenset.updateFrom
        generalize hPI : pyIter = PI
        wp_walk
        subst hPI
        refine wpAny_pyIter_tuple hl1 (wpAny_bind (wpAny_runValue ?_))
        have hlS : l < s.heap.objs.size := Heap.lt_size hol
        have h3 : A.in1.in1.in1.handled = none := by simp [hh]
        have neI : l ≠ (s.heap.push { cls := .type "set", dict := none, data := .set #[] 0 (.fresh 0 0 led) }).objs.size := by
          rw [Heap.size_push]
          exact Nat.ne_of_lt (Nat.lt_succ_of_lt hlS)
        have nS : s.heap.objs.size ∉ [(s.heap.push { cls := .type "set", dict := none, data := .set #[] 0 (.fresh 0 0 led) }).objs.size, l] := by
          rw [Heap.size_push]
          simp only [List.mem_cons, List.not_mem_nil, or_false, not_or]
          exact ⟨Nat.ne_of_lt (Nat.lt_succ_self _), Nat.ne_of_gt hlS⟩
        have hz : xs.length = items.size := by rw [← StrsAre.len_eq hi, Array.length_toList]
        have hget : ((s.heap.push { cls := .type "set", dict := none, data := .set #[] 0 (.fresh 0 0 led) }).push { cls := .type "tuple_iterator", data := .fields #[.ref l, .int 0 0] }).get? s.heap.objs.size = some { cls := .type "set", dict := none, data := .set #[] 0 (.fresh 0 0 led) } := Heap.get?_push_of_some _ hS
        refine txt_loop ((Walks.tuple h3 _ l neI items).toS) s.heap.objs.size nS xs hz (by rw [← hz]; exact hb) (fun i v hv => strsAre_get hi i v (by rw [Array.getElem?_toList]; exact hv)) (items.size - 0) 0 0 _ (by omega) (Nat.zero_le _) (Nat.le_refl _) ⟨⟨_, Heap.get?_push_size _ rfl, rfl, rfl⟩, hl1.push _⟩ ?hS0 ?hR
        case hS0 =>
          refine ⟨⟨_, #[], 0, _, hget, ⟨rfl, rfl, rfl⟩, rfl, fun e he => by simp at he, by simp, fun x => by simp, by decide, rfl, rfl, List.Pairwise.nil, ?_⟩⟩
          show _ ∨ led = true
          rw [← hled]
          cases w.params.followText "set-order"
          · exact .inr rfl
          · exact .inl rfl
        case hR =>
          intro s' m' mv hm' hS'
          obtain ⟨h', g', d', tk', os'⟩ := s'
          have eg : g' = s.gens := mv.gens
          have ed : d' = s.drawn := mv.drawn
          have eo : os' = s.os := mv.os
          subst eg ed eo
          show wpAny _ _ _ _ _ _
          refine wpAny_pure ?_
          show wpAny _ _ (ret Value.none) _ _ _
          have kp : ∀ b o, b < s.heap.objs.size → s.heap.get? b = some o → h'.get? b = some o := fun b o hb e => by
            have b1 : b ≠ s.heap.objs.size := Nat.ne_of_lt hb
            have b2 : b ≠ (s.heap.push { cls := .type "set", dict := none, data := .set #[] 0 (.fresh 0 0 led) }).objs.size := by
              rw [Heap.size_push]
              exact Nat.ne_of_lt (Nat.lt_succ_of_lt hb)
            exact mv.heap b o (by simp only [List.mem_cons, List.not_mem_nil, or_false, not_or]; exact ⟨b1, b2⟩) (Heap.get?_push_of_some _ (Heap.get?_push_of_some _ e))
          refine wpAny_pure ⟨rfl, h', tk', m', rfl, by rw [hz]; exact hm', hS', kp, ?_⟩
          obtain ⟨o, _, _, _, ho, _⟩ := hS'.all
          exact Nat.le_of_lt (Heap.lt_size ho)
      · cases r₂ with
        | error e => exact hr₂
        | ok fl₂ =>
          cases fl₂ with
          | ret r =>
            obtain ⟨rfl, h', tk, m, rfl, hm, hS', hk', hsz⟩ := hr₂
            repeat (any_goals (first | assumption | wp_step))
            exact h _ _ m hm hS' hk' hsz
          | _ => exact hr₂.elim
    | _ => exact hr.elim
end
end DL

set_option Elab.async false
set_option linter.all false
set_option maxRecDepth 100000
set_option maxHeartbeats 2000000
namespace DL
open PySem PySem.Spec L2
open PyProof.Rows hiding St

/-! ### texts in order -/
def ltS (x y : Str) : Bool := decide (x.cps.toList < y.cps.toList)
def insS (x : Str) : List Str → List Str
  | [] => [x]
  | y :: r => if ltS x y then x :: y :: r else if ltS y x then y :: insS x r else y :: r
/-- the texts of a list, each once, ascending -/
def sortS (l : List Str) : List Str := l.foldr insS []
theorem str_of_cps {x y : Str} (h : x.cps.toList = y.cps.toList) : x = y := by
  obtain ⟨⟨a⟩⟩ := x
  obtain ⟨⟨b⟩⟩ := y
  have h : a = b := h
  subst h
  rfl
theorem ltS_irr (x : Str) : ltS x x = false := decide_eq_false (List.lt_irrefl _)
theorem ltS_trans {x y z : Str} (a : ltS x y = true) (b : ltS y z = true) : ltS x z = true := decide_eq_true (List.lt_trans (of_decide_eq_true a) (of_decide_eq_true b))
theorem ltS_tri {x y : Str} (a : ltS x y = false) (b : ltS y x = false) : x = y := by
  refine str_of_cps (List.le_antisymm ?_ ?_)
  · exact List.not_lt.mp (of_decide_eq_false b)
  · exact List.not_lt.mp (of_decide_eq_false a)
theorem mem_insS {x z : Str} : ∀ {l : List Str}, z ∈ insS x l ↔ z = x ∨ z ∈ l
  | [] => by simp [insS]
  | y :: r => by
    unfold insS
    split
    · simp
    · rename_i h1
      split
      · rw [List.mem_cons, mem_insS, List.mem_cons]
        exact ⟨fun h => h.elim (fun e => .inr (.inl e)) fun h => h.elim .inl fun h => .inr (.inr h), fun h => h.elim (fun e => .inr (.inl e)) fun h => h.elim .inl fun h => .inr (.inr h)⟩
      · rename_i h2
        have e : x = y := ltS_tri (by simpa using h1) (by simpa using h2)
        subst e
        simp
theorem mem_sortS {z : Str} : ∀ {l : List Str}, z ∈ sortS l ↔ z ∈ l
  | [] => by simp [sortS]
  | x :: l => by
    show z ∈ insS x (sortS l) ↔ _
    rw [mem_insS, mem_sortS, List.mem_cons]
abbrev Asc (l : List Str) : Prop := l.Pairwise fun a b => ltS a b = true
theorem asc_insS {x : Str} : ∀ {l : List Str}, Asc l → Asc (insS x l)
  | [], _ => by simp [insS]
  | y :: r, h => by
    obtain ⟨h1, h2⟩ := List.pairwise_cons.mp h
    unfold insS
    split
    · rename_i q
      exact List.pairwise_cons.mpr ⟨fun z hz => (List.mem_cons.mp hz).elim (fun e => by rw [e]; exact q) fun hz => ltS_trans q (h1 z hz), h⟩
    · split
      · rename_i q
        exact List.pairwise_cons.mpr ⟨fun z hz => (mem_insS.mp hz).elim (fun e => by rw [e]; exact q) (h1 z), asc_insS h2⟩
      · exact h
theorem asc_sortS : ∀ (l : List Str), Asc (sortS l)
  | [] => List.Pairwise.nil
  | x :: l => asc_insS (asc_sortS l)
theorem asc_one : ∀ {l m : List Str}, Asc l → Asc m → (∀ z, z ∈ l ↔ z ∈ m) → l = m
  | [], [], _, _, _ => rfl
  | [], y :: m, _, _, h => by simpa using (h y).mpr List.mem_cons_self
  | x :: l, [], _, _, h => by simpa using (h x).mp List.mem_cons_self
  | x :: l, y :: m, a, b, h => by
    obtain ⟨a1, a2⟩ := List.pairwise_cons.mp a
    obtain ⟨b1, b2⟩ := List.pairwise_cons.mp b
    have e : x = y := by
      rcases List.mem_cons.mp ((h x).mp List.mem_cons_self) with e | hx
      · exact e
      · rcases List.mem_cons.mp ((h y).mpr List.mem_cons_self) with e | hy
        · exact e.symm
        · have := ltS_trans (b1 x hx) (a1 y hy)
          rw [ltS_irr] at this
          cases this
    subst e
    have ne : ∀ z, ltS x z = true → z ≠ x := fun z q e => by
      rw [e, ltS_irr] at q
      cases q
    rw [asc_one a2 b2 fun z => ⟨fun hz => ((List.mem_cons.mp ((h z).mp (List.mem_cons_of_mem _ hz))).resolve_left (ne z (a1 z hz))), fun hz => ((List.mem_cons.mp ((h z).mpr (List.mem_cons_of_mem _ hz))).resolve_left (ne z (b1 z hz)))⟩]
theorem asc_of : ∀ (l : List Str), sortedS l = true → l.Nodup → Asc l
  | [], _, _ => List.Pairwise.nil
  | x :: r, h, d => by
    have go : ∀ (r : List Str) (p : Str), risingS p r = true → (p :: r).Nodup → Asc (p :: r) := fun r => by
      induction r with
      | nil => exact fun p _ _ => List.pairwise_singleton _ _
      | cons y r ih =>
        intro p hp hd
        simp only [risingS, Bool.and_eq_true, Bool.not_eq_true'] at hp
        obtain ⟨d1, d2⟩ := List.nodup_cons.mp hd
        have q := ih y hp.2 d2
        have py : ltS p y = true := by
          cases e : ltS p y with
          | true => rfl
          | false =>
            have e2 : ltS y p = false := by
              have := hp.1
              rw [ltCps_eq] at this
              exact this
            exact absurd (by rw [ltS_tri e e2]; exact List.mem_cons_self) d1
        refine List.pairwise_cons.mpr ⟨fun z hz => ?_, q⟩
        rcases List.mem_cons.mp hz with e | hz
        · rw [e]; exact py
        · exact ltS_trans py ((List.pairwise_cons.mp q).1 z hz)
    exact go r x h d

section
variable {P : Program} {w : World} {A : Around} {E : Value → Shared → Prop} {s : Shared} {a : Addr} {S : Str → Bool} {n : Nat}
theorem strsAre_of_txt : ∀ (l : List Value), (∀ v ∈ l, ∃ x tk, v = Value.str x tk) → StrsAre l (l.map strOf)
  | [], _ => .nil
  | v :: l, h => by
    obtain ⟨x, tk, rfl⟩ := h v List.mem_cons_self
    exact .cons x tk (strsAre_of_txt l fun u hu => h u (List.mem_cons_of_mem _ hu))
theorem keyS_of {e : Int × Value} (g : isTxt P w e) : strOf e.2 = keyS e := by
  obtain ⟨x, tk, e1, _⟩ := g
  unfold keyS
  rw [e1]
  rfl
theorem txt_sorted {Q : Value → Shared → Prop} (R : TxtSet P w s.heap a S n) (hh : A.handled = none) (h64 : n < 64)
    (hQ : ∀ s' p (out : Array Value) (c : Nat) (ss : List Str), (∀ b o, s.heap.get? b = some o → s'.heap.get? b = some o) → s'.gens = s.gens → s'.os = s.os → s.heap.objs.size ≤ p →
      s'.heap.get? p = some (seqObj "list" out c) → StrsAre out.toList ss → Asc ss → (∀ x, x ∈ ss ↔ S x = true) → ss.length = n → Q (.ref p) s') : wpAny (model P w) A (call (.builtin "sorted") [.ref a]) Q E s := by
  obtain ⟨o, es, ep, t, ho, hex, hd, g, nd, hm, hb, hf, hn, hr, hl⟩ := R.all
  refine Calls.call_function_entry kind_sorted plain_sorted entry_sorted (args_sorted1 _) ?_
  unfold Builtin.«sorted»
  refine wpAny_bind (m := checkCount "sorted" 1 1 _) (wpAny_pure (wpAny_bind (collect_set (A := A.in1) hh ⟨o, ho, hex.1, hd⟩ hf hb hr hl fun s1 vs k1 hz g1 o1 pm => ?_)))
  have hvl : vs.length = n := by rw [pm.length_eq, List.length_map, Array.length_toList]; exact hn
  have hI : StrsAre vs (vs.map strOf) := strsAre_of_txt vs fun v hv => by
    obtain ⟨e, he, q⟩ := List.mem_map.mp (pm.mem_iff.mp hv)
    obtain ⟨x, tk, e1, _⟩ := g e he
    exact ⟨x, tk, by rw [← q]; exact e1⟩
  have pk : (vs.map strOf).Perm (es.toList.map keyS) := by
    have q := pm.map strOf
    rw [List.map_map] at q
    rw [← List.map_congr_left (fun e he => keyS_of (g e he))]
    exact q
  refine wpAny_bind (wpAny_newList ?_ (by rw [hvl, sizeLine_eq]; omega))
  have hoL : (s1.heap.push (seqObj "list" vs.toArray 0)).get? s1.heap.objs.size = some (seqObj "list" vs.toArray 0) := Heap.get?_push_size _ rfl
  refine wpAny_bind (wpAny_holding (wpAny_call_entry slot_list_sort ⟨_, hoL, rfl⟩ entry_list_sort (list_sort_treeK strKind_oneLt hoL hI.keysOf (fun v₁ v₂ rest e => keyKind_strs (by rw [← e]; exact hI)) (by rw [hvl]; exact h64) fun st' hp hs => ⟨_, rfl, ?_⟩) (args_list_sort _)))
  obtain ⟨ss, q1, q2, q3⟩ := sorted_out_str hI hp hs
  obtain ⟨c, hc⟩ := sortedHeap_at (vs := vs) (out := (arrOf st').map (·.2)) hoL
  have pn : ss.Perm (es.toList.map keyS) := q2.trans pk
  refine wpAny_pure ⟨_, rfl, hQ _ s1.heap.objs.size _ c ss (fun b u e => ?_) g1 o1 hz hc q1 (asc_of ss q3 (pn.nodup_iff.mpr nd)) (fun k => by rw [pn.mem_iff, ← hm k]) ?_⟩
  · have q := k1 b u e
    have lt := Heap.lt_size q
    show (sortedHeap (s1.heap.push (seqObj "list" vs.toArray 0)) s1.heap.objs.size vs _).get? b = some u
    rw [sortedHeap_old (Nat.ne_of_lt lt) (by rw [size_push']; exact Nat.lt_succ_of_lt lt)]
    exact Heap.get?_push_of_some _ q
  · rw [pn.length_eq, List.length_map, Array.length_toList]
    exact hn
end

def tSortedSet (K : Zx) (ta : TE) : TE := fun σ H Q => ta σ H fun x H1 => ∃ (l : Addr) (xs : List Str), x = .ref l ∧ SqT K H1 l (xs.map V.str) ∧ xs.length < 60 ∧ ∀ p, H1 p = none → Q (.ref p) (upd H1 p (.lst ((sortS xs).map V.str)))
section
variable {X : Cx} {W : WX}
theorem pe_sortedSet {a : Expr} {ta : TE} {p p2 q pos : Pos} (hc : X.calm = true) (hg : Gl X "sorted") (hm : X.mg "sorted" = none) (hg2 : Gl X "set") (hm2 : X.mg "set" = none) (ha : PE X a ta)
    (na : starEach [a] X.env = (false, eval a X.env) :: starEach [] X.env := by rfl) : PE X (.Call (.Name "sorted" p) [.Call (.Name "set" p2) [a] [] q] [] pos) (tSortedSet (zOf X) ta) := by
  refine ⟨fun pins s σ H Q I h => Call_ (ld_blt I hg hm boot_sorted ?_)⟩
  refine callWith_builtin1 (args_cons ?_ rfl) rfl rfl
  refine Call_ (ld_blt I hg2 hm2 boot_set (callWith_type1 (args_cons (thn (ha.run pins s σ H _ I h) fun v s1 ⟨x, H1, I1, r1, q1⟩ => args_nil ?_) na) na rfl))
  obtain ⟨l, xs, rfl, hq, hl, q1⟩ := q1
  cases r1
  obtain ⟨its, r, pl, hz⟩ := I1.tuple hq
  refine txt_of_tuple (I1.ok.hd hc) (show s1.heap.IsTuple l its.toArray from pl) (by simpa using strsAre_of r) (by unfold scanBound; omega) fun h' tk m hm' hS hk hsz => args_nil ?_
  have I2 : Inv X pins σ H1 { s1 with heap := h', toks := tk } := I1.kept fun b o e => hk b o (Heap.lt_size e) e
  refine txt_sorted (s := { s1 with heap := h', toks := tk }) hS (I1.ok.hd hc) (by omega) fun s' p' out c ss kp eg eo hp' hob hst ha' hmem hlen => ?_
  have es : ss = sortS xs := asc_one ha' (asc_sortS xs) fun z => by rw [hmem, mem_sortS]; exact decide_eq_true_iff
  subst es
  obtain ⟨hp2, g2, d2, t2, o2⟩ := s'
  have eg : g2 = s1.gens := eg
  have eo : o2 = s1.os := eo
  subst eg eo
  have hf : H1 p' = none := I2.hok.fresh hp'
  refine ⟨.ref p', upd H1 p' (.lst ((sortS xs).map V.str)), ?_, rfl, q1 p' hf⟩
  have hlen2 : ((sortS xs).map V.str).length ≤ sizeLine := by
    rw [List.length_map, hlen, sizeLine_eq]
    omega
  refine I2.call (h' := hp2) (g' := s1.gens) (d' := d2) (t' := t2) (ch := []) (Un.laid kp hp' hf) (I2.hok.laid kp hp' ⟨hlen2, out.toList, c, vals_of_strs hst, hob⟩) I2.bare fun b z => absurd z (by simp)
def strsD : List D → Option (List Str)
  | [] => some []
  | .str x :: r => (strsD r).map (x :: ·)
  | _ => none
theorem strsD_reps {K : Zx} {β : Bx} {H : Hp} : ∀ {l : List D} {xs : List V} {ss : List Str}, Reps K β H xs l → strsD l = some ss → xs = ss.map V.str
  | [], _, _, r, e => by
    cases r
    cases e
    rfl
  | d :: l, _, _, r, e => by
    cases r with
    | cons r1 r2 =>
      cases d <;> simp only [strsD, reduceCtorEq] at e
      rw [Option.map_eq_some_iff] at e
      obtain ⟨ss, hs, rfl⟩ := e
      cases r1
      rw [strsD_reps r2 hs]
      rfl
theorem reps_strs {K : Zx} {β : Bx} {H : Hp} : ∀ (ss : List Str), Reps K β H (ss.map V.str) (ss.map D.str)
  | [] => .nil
  | x :: ss => .cons (.str x) (reps_strs ss)
def mSortedSet : D → Sto → Option D
  | .tup l, _ => match strsD l with
    | some ss => if ss.length < 60 ∧ (sortS ss).length ≤ LIM then some (.lst ((sortS ss).map D.str)) else none
    | none => none
  | _, _ => none
theorem de_sortedSet {a : Expr} {f : G D} {p p2 q pos : Pos} (hc : X.calm = true) (hg : Gl X "sorted") (hm : X.mg "sorted" = none) (hg2 : Gl X "set") (hm2 : X.mg "set" = none) (ha : DE X W a f)
    (na : starEach [a] X.env = (false, eval a X.env) :: starEach [] X.env := by rfl) : DE X W (.Call (.Name "sorted" p) [.Call (.Name "set" p2) [a] [] q] [] pos) (gUn mSortedSet f) := by
  refine PEmono (pe_sortedSet hc hg hm hg2 hm2 ha na) fun σ H Q h => ?_
  obtain ⟨β, ρ, st, hρ, hs, h⟩ := h
  refine tD_intro hρ hs (Out.sat_bind h) (fun d s1 h1 v β1 H1 e1 S1 r1 => ?_) fun _ _ q => q
  obtain ⟨d3, e, p⟩ := oout_sat h1
  cases d with
  | tup l =>
    simp only [mSortedSet] at e
    split at e
    · rename_i ss hss
      split at e
      · rename_i hz
        cases e
        cases r1 with
        | tup h1 h2 h3 =>
          refine ⟨_, ss, rfl, by rw [← strsD_reps h2 hss]; exact h1, hz.1, fun p' hp => ?_⟩
          exact p (.ref p') β1 _ (e1.trans (Ext.new hp)) (S1.fresh hp) (.lst upd_same (S1.nmem hp) (reps_strs _) (by rw [List.length_map]; exact leLIM hz.2))
      · cases e
    · cases e
  | _ => simp only [mSortedSet, reduceCtorEq] at e
end
end DL

set_option Elab.async false
set_option linter.all false
set_option maxRecDepth 100000
set_option maxHeartbeats 2000000
/-! # Running the functions of data: one row a construct, for simp -/
namespace DL
open PySem PySem.Spec L2
open PyProof.Rows hiding St
section
variable {ρ : Env} {st s1 : Sto} {d e v : D} {x y : Str} {i j : Int} {a b l : List D} {n k : Nat} {p q : Bool} {f g : G D} {fs : G (List D)} {t u : G Bool} {m m' : D → D → Sto → Option D}
def blOut (d : D) (st : Sto) : Out Bool := match d with
  | .bl k => .ok k st
  | _ => .bad
@[simp] theorem e_blOut : blOut (.bl p) st = .ok p st := rfl
@[simp] theorem e_C : gC d ρ st = .ok d st := rfl
@[simp] theorem e_V0 {r : Env} : gVar 0 (some d :: r) st = .ok d st := rfl
@[simp] theorem e_VS {z : Option D} {r : Env} : gVar (n + 1) (z :: r) st = gVar n r st := by simp [gVar]
@[simp] def kOp2 (m : D → D → Sto → Option D) (d e : D) (s2 : Sto) : Out D := oout (m d e s2) s2
@[simp] def kOp (m : D → D → Sto → Option D) (g : G D) (ρ : Env) (d : D) (s1 : Sto) : Out D := (g ρ s1).bind (kOp2 m d)
@[simp] theorem e_Op : gOp m f g ρ st = (f ρ st).bind (kOp m g ρ) := rfl
@[simp] def kUn (m : D → Sto → Option D) (d : D) (s1 : Sto) : Out D := oout (m d s1) s1
@[simp] theorem e_Un {m : D → Sto → Option D} : gUn m f ρ st = (f ρ st).bind (kUn m) := rfl
@[simp] theorem e_Nil : aNil ρ st = .ok [] st := rfl
@[simp] def kCons2 (d : D) (ds : List D) (s2 : Sto) : Out (List D) := .ok (d :: ds) s2
@[simp] def kCons (fs : G (List D)) (ρ : Env) (d : D) (s1 : Sto) : Out (List D) := (fs ρ s1).bind (kCons2 d)
@[simp] theorem e_Cons : aCons f fs ρ st = (f ρ st).bind (kCons fs ρ) := rfl
@[simp] def kCB (m : List D → Sto → Option D) (ds : List D) (s1 : Sto) : Out D := oout (m ds s1) s1
@[simp] theorem e_CB {m : List D → Sto → Option D} : gCB m fs ρ st = (fs ρ st).bind (kCB m) := rfl
@[simp] theorem e_Call {m : List D → Sto → Out D} : gCall m fs ρ st = (fs ρ st).bind m := rfl
@[simp] def kTup (ds : List D) (s1 : Sto) : Out D := if ds.length ≤ 1000 then .ok (.tup ds) s1 else .bad
@[simp] theorem e_TupD : gTupD fs ρ st = (fs ρ st).bind kTup := rfl
@[simp] def kLst (ds : List D) (s1 : Sto) : Out D := if ds.length ≤ 1000 then .ok (.lst ds) s1 else .bad
@[simp] theorem e_LstD : gLstD fs ρ st = (fs ρ st).bind kLst := rfl
@[simp] def kLstM (ds : List D) (s1 : Sto) : Out D := if ds.length ≤ 1000 then .ok (.ref s1.length) (s1 ++ [.lst ds]) else .bad
@[simp] theorem e_LstM : gLstM fs ρ st = (fs ρ st).bind kLstM := rfl
@[simp] theorem e_DctM : gDctM ρ st = .ok (.ref st.length) (st ++ [.dK []]) := rfl
@[simp] def kAnd2 (g : G D) (ρ : Env) (d : D) (k : Bool) (s1 : Sto) : Out D := if k then g ρ s1 else .ok d s1
@[simp] def kAnd (g : G D) (ρ : Env) (d : D) (s1 : Sto) : Out D := (oout (mTru d s1) s1).bind (kAnd2 g ρ d)
@[simp] theorem e_And : gAnd f g ρ st = (f ρ st).bind (kAnd g ρ) := rfl
@[simp] def kOr2 (g : G D) (ρ : Env) (d : D) (k : Bool) (s1 : Sto) : Out D := if k then .ok d s1 else g ρ s1
@[simp] def kOr (g : G D) (ρ : Env) (d : D) (s1 : Sto) : Out D := (oout (mTru d s1) s1).bind (kOr2 g ρ d)
@[simp] theorem e_Or : gOr f g ρ st = (f ρ st).bind (kOr g ρ) := rfl
@[simp] def kNot2 (k : Bool) (s1 : Sto) : Out D := .ok (.bl !k) s1
@[simp] def kNot (d : D) (s1 : Sto) : Out D := (oout (mTru d s1) s1).bind kNot2
@[simp] theorem e_Not : gNot f ρ st = (f ρ st).bind kNot := rfl
@[simp] def kTr (d : D) (s1 : Sto) : Out Bool := oout (mTru d s1) s1
@[simp] theorem e_Tr : gTr f ρ st = (f ρ st).bind kTr := rfl
@[simp] def kIf (f g : G D) (ρ : Env) (k : Bool) (s1 : Sto) : Out D := if k then f ρ s1 else g ρ s1
@[simp] theorem e_If : gIf t f g ρ st = (t ρ st).bind (kIf f g ρ) := rfl
@[simp] def kTNot (k : Bool) (s1 : Sto) : Out Bool := .ok (!k) s1
@[simp] theorem e_TNot : gTNot t ρ st = (t ρ st).bind kTNot := rfl
@[simp] def kTAnd (u : G Bool) (ρ : Env) (k : Bool) (s1 : Sto) : Out Bool := if k then u ρ s1 else .ok false s1
@[simp] theorem e_TAnd : gTAnd t u ρ st = (t ρ st).bind (kTAnd u ρ) := rfl
@[simp] def kTOr (u : G Bool) (ρ : Env) (k : Bool) (s1 : Sto) : Out Bool := if k then .ok true s1 else u ρ s1
@[simp] theorem e_TOr : gTOr t u ρ st = (t ρ st).bind (kTOr u ρ) := rfl
@[simp] theorem e_Bl : gBl f ρ st = (f ρ st).bind blOut := rfl
@[simp] def kCh3 (m' : D → D → Sto → Option D) (e e' : D) (s3 : Sto) : Out Bool := (oout (m' e e' s3) s3).bind blOut
def kCh2 (m' : D → D → Sto → Option D) (e : D) (h : G D) (ρ : Env) (k : D) (s2 : Sto) : Out Bool := match k with
  | .bl true => (h ρ s2).bind (kCh3 m' e)
  | .bl false => .ok false s2
  | _ => .bad
@[simp] theorem e_ch1 {h : G D} : kCh2 m' e h ρ (.bl true) st = (h ρ st).bind (kCh3 m' e) := rfl
@[simp] theorem e_ch0 {h : G D} : kCh2 m' e h ρ (.bl false) st = .ok false st := rfl
@[simp] theorem e_chd {h : G D} {P : Prop} [Decidable P] : kCh2 m' e h ρ (.bl (decide P)) st = if P then (h ρ st).bind (kCh3 m' e) else .ok false st := by
  by_cases c : P
  · rw [if_pos c, decide_eq_true c]
    rfl
  · rw [if_neg c, decide_eq_false c]
    rfl
@[simp] def kCh1 (m m' : D → D → Sto → Option D) (h : G D) (ρ : Env) (d e : D) (s2 : Sto) : Out Bool := (oout (m d e s2) s2).bind (kCh2 m' e h ρ)
@[simp] def kCh (m m' : D → D → Sto → Option D) (g h : G D) (ρ : Env) (d : D) (s1 : Sto) : Out Bool := (g ρ s1).bind (kCh1 m m' h ρ d)
@[simp] theorem e_Chain {h : G D} : gChain m m' f g h ρ st = (f ρ st).bind (kCh m m' g h ρ) := rfl
@[simp] def kB (k : Bool) (s1 : Sto) : Out D := .ok (.bl k) s1
@[simp] theorem e_B : gB t ρ st = (t ρ st).bind kB := rfl
@[simp] theorem e_None : gNone ρ st = .ok none st := rfl
def someOut (d : D) (st : Sto) : Out (Option Int) := match d with
  | .int i => .ok (some i) st
  | _ => .bad
@[simp] theorem e_someOut : someOut (.int i) st = .ok (some i) st := rfl
@[simp] theorem e_Some : gSome f ρ st = (f ρ st).bind someOut := rfl
@[simp] def kSl3 (d : D) (l u : Option Int) (s3 : Sto) : Out D := oout (mSl d l u s3) s3
@[simp] def kSl2 (hi : G (Option Int)) (ρ : Env) (d : D) (l : Option Int) (s2 : Sto) : Out D := (hi ρ s2).bind (kSl3 d l)
@[simp] def kSl (lo hi : G (Option Int)) (ρ : Env) (d : D) (s1 : Sto) : Out D := (lo ρ s1).bind (kSl2 hi ρ d)
@[simp] theorem e_Op3 {lo hi : G (Option Int)} : gOp3 f lo hi ρ st = (f ρ st).bind (kSl lo hi ρ) := rfl
@[simp] def kSeq (d : D) (s1 : Sto) : Out (List D) := oout (mSeq d s1) s1
@[simp] theorem e_Seq : gSeq f ρ st = (f ρ st).bind kSeq := rfl
@[simp] def kRange1 (d : List D) (s1 : Sto) : Out (List D) := oout (mRange1 d) s1
@[simp] theorem e_Range1 : gRange1 fs ρ st = (fs ρ st).bind kRange1 := rfl
@[simp] def kRange2 (d : List D) (s1 : Sto) : Out (List D) := oout (mRange2 d) s1
@[simp] theorem e_Range2 : gRange2 fs ρ st = (fs ρ st).bind kRange2 := rfl
@[simp] def kZip (d : List D) (s1 : Sto) : Out (List D) := oout (mZip d) s1
@[simp] theorem e_Zip : gZip fs ρ st = (fs ρ st).bind kZip := rfl
@[simp] theorem e_Yes : gYes ρ st = .ok true st := rfl
@[simp] def kLs (ys : List D) (s2 : Sto) : Out D := .ok (.lst ys) s2
@[simp] def kComp (vs : List Nat) (pt : Pat) (t : G Bool) (f : G D) (ρ : Env) (items : List D) (s1 : Sto) : Out D := (compGo (wipeE ρ vs) pt t f items s1).bind kLs
@[simp] theorem e_Comp {vs : List Nat} {fi : G (List D)} {pt : Pat} : gComp vs fi pt t f ρ st = (fi ρ st).bind (kComp vs pt t f ρ) := rfl
@[simp] def kLsM (ys : List D) (s2 : Sto) : Out D := .ok (.ref s2.length) (s2 ++ [.lst ys])
@[simp] def kCompM (vs : List Nat) (pt : Pat) (t : G Bool) (f : G D) (ρ : Env) (items : List D) (s1 : Sto) : Out D := (compGo (wipeE ρ vs) pt t f items s1).bind kLsM
@[simp] theorem e_CompM {vs : List Nat} {fi : G (List D)} {pt : Pat} : gCompM vs fi pt t f ρ st = (fi ρ st).bind (kCompM vs pt t f ρ) := rfl
def kgetOut (tab : List (Str × D)) (d : D) (st : Sto) : Out D := match d with
  | .str z => .ok ((tab.lookup z).getD .non) st
  | _ => .bad
@[simp] theorem e_kgetOut {tab : List (Str × D)} : kgetOut tab (.str x) st = .ok ((tab.lookup x).getD .non) st := rfl
@[simp] theorem e_KGet {tab : List (Str × D)} : gKGet tab f ρ st = (f ρ st).bind (kgetOut tab) := rfl
/-! statements -/
variable {r r' : G Fl} {fl : Fl}
@[simp] def kSet (n : Nat) (ρ : Env) (d : D) (s1 : Sto) : Out Fl := .ok (.nx (ρ.set n (some d))) s1
@[simp] theorem e_sSet : sSet n f ρ st = (f ρ st).bind (kSet n ρ) := rfl
def patOut (p : Pat) (ρ : Env) (d : D) (s1 : Sto) : Out Fl := match Pat.set p d ρ with
  | some ρ' => .ok (.nx ρ') s1
  | none => .bad
@[simp] theorem e_sPat {pt : Pat} : sPat pt f ρ st = (f ρ st).bind (patOut pt ρ) := rfl
def parOut (i j : Nat) (ρ : Env) (ds : List D) (s1 : Sto) : Out Fl := match ds with
  | [a, b] => .ok (.nx ((ρ.set i (some a)).set j (some b))) s1
  | _ => .bad
@[simp] theorem e_parOut : parOut n k ρ [d, e] st = .ok (.nx ((ρ.set n (some d)).set k (some e))) st := rfl
@[simp] theorem e_sPar : sPar n k fs ρ st = (fs ρ st).bind (parOut n k ρ) := rfl
@[simp] def kRet (d : D) (s1 : Sto) : Out Fl := .ok (.rt d) s1
@[simp] theorem e_sRet : sRet f ρ st = (f ρ st).bind kRet := rfl
@[simp] def kDrop (ρ : Env) (d : D) (s1 : Sto) : Out Fl := .ok (.nx ρ) s1
@[simp] theorem e_sDrop : sDrop f ρ st = (f ρ st).bind (kDrop ρ) := rfl
@[simp] theorem e_sNext : sNext ρ st = .ok (.nx ρ) st := rfl
@[simp] theorem e_sBreak : sBreak ρ st = .ok (.bk ρ) st := rfl
@[simp] theorem e_sCont : sCont ρ st = .ok (.ct ρ) st := rfl
def thenS (g : G Fl) (r : Fl) (s1 : Sto) : Out Fl := match r with
  | .nx ρ' => g ρ' s1
  | r => .ok r s1
@[simp] theorem e_thn : thenS r (.nx ρ) st = r ρ st := rfl
@[simp] theorem e_thr : thenS r (.rt d) st = .ok (.rt d) st := rfl
@[simp] theorem e_thb : thenS r (.bk ρ) st = .ok (.bk ρ) st := rfl
@[simp] theorem e_thc : thenS r (.ct ρ) st = .ok (.ct ρ) st := rfl
theorem sSeq_ap : sSeq r r' ρ st = (r ρ st).bind (thenS r') := by
  unfold sSeq
  congr 1
@[simp] theorem e_sSeq : sSeq r r' ρ st = (r ρ st).bind (thenS r') := sSeq_ap
@[simp] def kSIf (r r' : G Fl) (ρ : Env) (k : Bool) (s1 : Sto) : Out Fl := if k then r ρ s1 else r' ρ s1
@[simp] theorem e_sIf : sIf t r r' ρ st = (t ρ st).bind (kSIf r r' ρ) := rfl
def putOut (o i v : D) (ρ : Env) (st : Sto) : Out Fl := match mPut o i v st with
  | some s4 => .ok (.nx ρ) s4
  | none => .bad
@[simp] def kPut3 (ρ : Env) (v o i : D) (s3 : Sto) : Out Fl := putOut o i v ρ s3
@[simp] def kPut2 (fi : G D) (ρ : Env) (v o : D) (s2 : Sto) : Out Fl := (fi ρ s2).bind (kPut3 ρ v o)
@[simp] def kPut (fo fi : G D) (ρ : Env) (v : D) (s1 : Sto) : Out Fl := (fo ρ s1).bind (kPut2 fi ρ v)
@[simp] theorem e_sPut {fo fi fv : G D} : sPut fo fi fv ρ st = (fv ρ st).bind (kPut fo fi ρ) := rfl
theorem put_at (h : st[n]? = some (.lst l)) (hk : ixN l.length i = some k) : putOut (.ref n) (.int i) v ρ st = .ok (.nx ρ) (st.set n (.lst (l.set k v))) := by
  unfold putOut mPut
  simp only [h, hk, Option.map_some]
@[simp] theorem e_endr : endD (.rt d) st = .ok d st := rfl
@[simp] theorem e_endn : endD (.nx ρ) st = .ok .non st := rfl
@[simp] theorem e_Fun {ds : List D} {gg : G Fl} : gFun n gg ds st = (gg (ds.map some ++ List.replicate (n - ds.length) none) st).bind endD := rfl
@[simp] def kFor (pt : Pat) (r : G Fl) (ρ : Env) (items : List D) (s1 : Sto) : Out Fl := forGo pt r items ρ s1
@[simp] theorem e_sFor {fi : G (List D)} {pt : Pat} : sFor fi pt r ρ st = (fi ρ st).bind (kFor pt r ρ) := rfl
/-! operators -/
@[simp] theorem o_addi : mAdd (.int i) (.int j) st = some (.int (i + j)) := rfl
@[simp] theorem o_addt : mAdd (.tup a) (.tup b) st = if a.length + b.length ≤ LIM then some (.tup (a ++ b)) else none := rfl
@[simp] theorem o_addl : mAdd (.lst a) (.lst b) st = if a.length + b.length ≤ LIM then some (.lst (a ++ b)) else none := rfl
@[simp] theorem o_adds : mAdd (.str x) (.str y) st = if x.length + y.length ≤ LIM then some (.str (x ++ y)) else none := rfl
@[simp] theorem o_sub : mSub (.int i) (.int j) st = some (.int (i - j)) := rfl
@[simp] theorem o_mul : mMul (.int i) (.int j) st = if -(2 ^ 64) < j ∧ j < 2 ^ 64 then some (.int (i * j)) else none := rfl
@[simp] theorem o_mod : mMod (.int i) (.int j) st = if 0 < j then some (.int (i % j)) else none := rfl
@[simp] theorem o_fdiv : mFdiv (.int i) (.int j) st = if 0 < j ∧ j < 1073741824 then some (.int (i / j)) else none := rfl
@[simp] theorem o_pow : mPow (.int i) (.int j) st = if 0 ≤ j ∧ j ≤ 1000000 ∧ i.natAbs < 2 ^ 64 then some (.int (i ^ j.toNat)) else none := rfl
@[simp] theorem o_neg : mNeg (.int i) st = some (.int (-i)) := rfl
@[simp] theorem o_lt : mLt (.int i) (.int j) st = some (.bl (decide (i < j))) := rfl
@[simp] theorem o_le : mLe (.int i) (.int j) st = some (.bl (decide (i ≤ j))) := rfl
@[simp] theorem o_gt : mGt (.int i) (.int j) st = some (.bl (decide (j < i))) := rfl
@[simp] theorem o_ge : mGe (.int i) (.int j) st = some (.bl (decide (j ≤ i))) := rfl
@[simp] theorem o_ixt : mIx (.tup l) (.int i) st = atI l i := rfl
@[simp] theorem o_ixl : mIx (.lst l) (.int i) st = atI l i := rfl
@[simp] theorem o_ixr : mIx (.ro l) (.int i) st = atI l i := rfl
@[simp] theorem o_ixn {r : List SO} : mIx (.ref 0) (.int i) (.lst l :: r) = atI l i := rfl
@[simp] theorem o_int : mInt [.int i] st = some (.int i) := rfl
@[simp] theorem o_intb : mInt [.bl p] st = some (.int (if p then 1 else 0)) := rfl
@[simp] theorem o_lent : mLen [.tup l] st = some (.int l.length) := rfl
@[simp] theorem o_lenl : mLen [.lst l] st = some (.int l.length) := rfl
@[simp] theorem o_lenr : mLen [.ro l] st = some (.int l.length) := rfl
@[simp] theorem o_tupt : mTuple [.tup l] st = some (.tup l) := rfl
@[simp] theorem o_tupl : mTuple [.lst l] st = some (.tup l) := rfl
@[simp] theorem o_lstt : mList [.tup l] st = some (.lst l) := rfl
@[simp] theorem o_lstl : mList [.lst l] st = some (.lst l) := rfl
@[simp] theorem o_min : mMin2 [.int i, .int j] st = some (.int (if j < i then j else i)) := rfl
@[simp] theorem o_trb : mTru (.bl p) st = some p := rfl
@[simp] theorem o_tri : mTru (.int i) st = some (i != 0) := rfl
@[simp] theorem o_trn : mTru .non st = some false := rfl
@[simp] theorem o_trt : mTru (.tup l) st = some (!l.isEmpty) := rfl
@[simp] theorem o_trl : mTru (.lst l) st = some (!l.isEmpty) := rfl
@[simp] theorem o_sqt : mSeq (.tup l) st = some l := rfl
@[simp] theorem o_sql : mSeq (.lst l) st = some l := rfl
@[simp] theorem o_sqr : mSeq (.ro l) st = some l := rfl
@[simp] theorem o_rg1 : mRange1 [.int i] = if i ≤ 1000000 ∧ -1000000 ≤ i then some (intsD 0 i.toNat) else none := rfl
@[simp] theorem o_rg2 : mRange2 [.int i, .int j] = if (-1000000 ≤ i ∧ i ≤ 1000000) ∧ (-1000000 ≤ j ∧ j ≤ 1000000) then some (intsD i (j - i).toNat) else none := rfl
@[simp] theorem o_zip : mZip [.tup a, .tup b] = some (zipD a b) := rfl
@[simp] theorem o_zc : zipD (d :: a) (e :: b) = .tup [d, e] :: zipD a b := rfl
@[simp] theorem o_z0 : zipD [] b = [] := by cases b <;> rfl
@[simp] theorem o_z1 : zipD a [] = [] := by cases a <;> rfl
@[simp] theorem o_isi {s : String} : mIsi [d, .raw (.ty s)] st = match tyD d st with | some a => (isiB a s).map D.bl | none => none := rfl
@[simp] theorem o_isiT : mIsiT [d, .tup l] st = match tyD d st with | some a => (isiAny a l).map D.bl | none => none := rfl
@[simp] theorem o_isb : mIs (.bl p) (.bl q) st = some (.bl (decide (p = q))) := rfl
@[simp] theorem o_inb : mIsNot (.bl p) (.bl q) st = some (.bl (!decide (p = q))) := rfl
@[simp] theorem y_non : tyD .non st = some "NoneType" := rfl
@[simp] theorem y_bl : tyD (.bl p) st = some "bool" := rfl
@[simp] theorem y_int : tyD (.int i) st = some "int" := rfl
@[simp] theorem y_str : tyD (.str x) st = some "str" := rfl
@[simp] theorem y_tup : tyD (.tup l) st = some "tuple" := rfl
@[simp] theorem y_lst : tyD (.lst l) st = some "list" := rfl
@[simp] theorem y_ro : tyD (.ro l) st = some "list" := rfl
/-! comprehensions, loops -/
@[simp] theorem k_nil {pt : Pat} : compGo ρ pt t f [] st = .ok [] st := rfl
@[simp] theorem x_ok {α : Type} {z : α} : (Out.ok z st).nox = .ok z st := rfl
@[simp] def kCo3 (y : D) (ys : List D) (s3 : Sto) : Out (List D) := .ok (y :: ys) s3
@[simp] def kCo2 (ρ : Env) (p : Pat) (t : G Bool) (f : G D) (ds : List D) (y : D) (s2 : Sto) : Out (List D) := (compGo ρ p t f ds s2).bind (kCo3 y)
@[simp] def kCo (ρ : Env) (pt : Pat) (t : G Bool) (f : G D) (ds : List D) (ρ1 : Env) (b : Bool) (s1 : Sto) : Out (List D) := if b then (f ρ1 s1).nox.bind (kCo2 ρ pt t f ds) else compGo ρ pt t f ds s1
theorem k_nm {ds : List D} : compGo ρ (.nm n) t f (d :: ds) st = (t (ρ.set n (some d)) st).nox.bind (kCo ρ (.nm n) t f ds (ρ.set n (some d))) := by
  simp only [compGo, Pat.set]
  rfl
@[simp] theorem w_nil : wipeE ρ [] = ρ := rfl
@[simp] theorem w_cons {vs : List Nat} : wipeE ρ (n :: vs) = (wipeE ρ vs).set n none := rfl
end
theorem atI_cons0 {α : Type} {x : α} {l : List α} : atI (x :: l) 0 = some x := by simp [atI, ixN]
theorem atI_nat' {α : Type} {l : List α} {i : Int} {x : α} (h0 : 0 ≤ i) (h : l[i.toNat]? = some x) : atI l i = some x := by
  have e : i = ((i.toNat : Nat) : Int) := by omega
  rw [e]
  exact atI_nat h

@[simp] theorem atI_lit {α : Type} {l : List α} {n : Nat} : atI l (no_index (@OfNat.ofNat Int n _)) = l[n]? := by
  show atI l ((n : Nat) : Int) = l[n]?
  cases e : l[n]? with
  | some v => exact atI_nat e
  | none =>
    have hl : l.length ≤ n := List.getElem?_eq_none_iff.mp e
    unfold atI ixN
    rw [if_pos (Int.natCast_nonneg n), if_neg (by omega)]
    rfl
@[simp] theorem put_ref {l : List D} {r : List SO} {n : Nat} {v : D} {ρ : Env} (h : n < l.length) : putOut (.ref 0) (.int (no_index (@OfNat.ofNat Int n _))) v ρ (.lst l :: r) = .ok (.nx ρ) (.lst (l.set n v) :: r) := by
  have hk : ixN l.length ((n : Nat) : Int) = some n := by
    unfold ixN
    rw [if_pos (Int.natCast_nonneg n), if_pos (by omega)]
    rfl
  exact put_at (st := .lst l :: r) (n := 0) (k := n) rfl hk

/-! == and in of flat data -/
theorem char_lt (c : Char) : c.toNat < 1114112 := by
  have h := c.valid
  unfold UInt32.isValidChar Nat.isValidChar at h
  show c.val.toNat < _
  omega
theorem char_inj {a b : Char} (h : a.toNat = b.toNat) : a = b := Char.ext (UInt32.toNat_inj.mp h)
theorem chars_inj : ∀ {a b : List Char}, a.map Char.toNat = b.map Char.toNat → a = b
  | [], [], _ => rfl
  | [], _ :: _, h => by simp at h
  | _ :: _, [], h => by simp at h
  | x :: a, y :: b, h => by
    simp only [List.map_cons, List.cons.injEq] at h
    rw [char_inj h.1, chars_inj h.2]
theorem strOk_of (s : String) : PyData.strOk (Str.ofString s) = true := by
  rw [Str.ofString_eq_toList]
  unfold PyData.strOk
  rw [Array.all_eq_true']
  intro n hn
  simp only [List.mem_toArray, List.mem_map] at hn
  obtain ⟨c, _, rfl⟩ := hn
  exact decide_eq_true (char_lt c)
theorem ofString_inj {a b : String} (h : Str.ofString a = Str.ofString b) : a = b := by
  rw [Str.ofString_eq_toList, Str.ofString_eq_toList] at h
  have h1 : a.toList.map Char.toNat = b.toList.map Char.toNat := by
    have := congrArg Str.cps h
    simpa using this
  exact String.toList_inj.mp (chars_inj h1)
@[simp] theorem beq_lit (a b : String) : (Str.ofString a == Str.ofString b) = (a == b) := by
  by_cases h : a = b
  · subst h
    simp
  · rw [beq_false_of_ne h, beq_false_of_ne fun e => h (ofString_inj e)]
theorem okStr {x : Str} (h : PyData.strOk x = true) : okD (.str x) = true := by
  show (PyData.canLay0 (D.str x).py && decide ((D.str x).py.depth ≤ 64)) = true
  simp only [D.py, PyData.canLay0, PyData.depth, h]
  rfl
@[simp] theorem ok_lit (s : String) : okD (.str (Str.ofString s)) = true := okStr (strOk_of s)
@[simp] theorem ok_int {i : Int} : okD (.int i) = true := rfl
@[simp] theorem ok_bl {b : Bool} : okD (.bl b) = true := rfl
@[simp] theorem ok_non : okD .non = true := rfl
@[simp] theorem o_eq {d e : D} {st : Sto} : mEq d e st = if okD d && okD e then some (.bl (eqD d e)) else none := rfl
@[simp] theorem o_ne {d e : D} {st : Sto} : mNe d e st = if okD d && okD e then some (.bl (!eqD d e)) else none := rfl
@[simp] theorem q_int {i j : Int} : eqD (.int i) (.int j) = (i == j) := by simp [eqD, D.py, PyData.eqv]
@[simp] theorem q_str {x y : Str} : eqD (.str x) (.str y) = (x == y) := by simp [eqD, D.py, PyData.eqv]
@[simp] theorem q_bl {x y : Bool} : eqD (.bl x) (.bl y) = (x == y) := by simp [eqD, D.py, PyData.eqv]
end DL

set_option Elab.async false
set_option linter.all false
set_option maxRecDepth 100000
set_option maxHeartbeats 2000000
/-! # == and in of tuples and lists of data; rows for simp -/
namespace DL
open PySem PySem.Spec L2
open PyProof.Rows hiding St
/-- data that can be compared, not deeper than n -/
def okB (n : Nat) (d : D) : Bool := d.py.canLay0 && decide (d.py.depth ≤ n)
theorem okD_64 (d : D) : okD d = okB 64 d := rfl
theorem pys_ok : ∀ (l : List D) (n : Nat), (PyData.canLayAll0 (D.pys l) && decide (PyData.depthAll (D.pys l) ≤ n)) = l.all (okB n)
  | [], n => by simp [D.pys, PyData.canLayAll0, PyData.depthAll]
  | d :: l, n => by
    rw [List.all_cons, ← pys_ok l n]
    simp only [D.pys, PyData.canLayAll0, PyData.depthAll, okB]
    rw [show decide (max d.py.depth (PyData.depthAll (D.pys l)) ≤ n) = (decide (d.py.depth ≤ n) && decide (PyData.depthAll (D.pys l) ≤ n)) by
      rw [← Bool.decide_and]; exact decide_eq_decide.mpr Nat.max_le]
    cases d.py.canLay0 <;> cases PyData.canLayAll0 (D.pys l) <;> simp
section
variable {n : Nat} {l a b : List D} {x y : Str} {i j : Int} {p q : Bool} {d e : D}
theorem okB_seq (h : (D.py d) = .tuple (D.pys l) ∨ (D.py d) = .list (D.pys l)) : okB (n + 1) d = l.all (okB n) := by
  rw [← pys_ok l n]
  unfold okB
  rcases h with h | h <;> rw [h] <;> simp only [PyData.canLay0, PyData.depth] <;> congr 1 <;> exact decide_eq_decide.mpr (by omega)
@[simp] theorem okB_tup : okB (n + 1) (.tup l) = l.all (okB n) := okB_seq (.inl (by simp [D.py]))
@[simp] theorem okB_lst : okB (n + 1) (.lst l) = l.all (okB n) := okB_seq (.inr (by simp [D.py]))
@[simp] theorem okB_ro : okB (n + 1) (.ro l) = l.all (okB n) := okB_seq (.inr (by simp [D.py]))
@[simp] theorem okB_non : okB n .non = true := by simp [okB, D.py, PyData.canLay0, PyData.depth]
@[simp] theorem okB_bl : okB n (.bl p) = true := by simp [okB, D.py, PyData.canLay0, PyData.depth]
@[simp] theorem okB_int : okB n (.int i) = true := by simp [okB, D.py, PyData.canLay0, PyData.depth]
@[simp] theorem okB_str : okB n (.str x) = PyData.strOk x := by simp [okB, D.py, PyData.canLay0, PyData.depth]
@[simp] theorem ok_tup : okD (.tup l) = l.all (okB 63) := okB_tup (n := 63)
@[simp] theorem ok_lst : okD (.lst l) = l.all (okB 63) := okB_lst (n := 63)
@[simp] theorem ok_ro : okD (.ro l) = l.all (okB 63) := okB_ro (n := 63)
@[simp] theorem strOk_lit (s : String) : PyData.strOk (Str.ofString s) = true := strOk_of s
theorem okB_strs {ss : List Str} (h : ∀ s ∈ ss, PyData.strOk s = true) : (ss.map D.str).all (okB n) = true := by
  rw [List.all_map, List.all_eq_true]
  intro s hs
  simp [h s hs]
/-- == of two rows -/
def eqDs : List D → List D → Bool
  | [], [] => true
  | d :: a, e :: b => eqD d e && eqDs a b
  | _, _ => false
theorem eqvAll_pys : ∀ a b : List D, PyData.eqvAll (D.pys a) (D.pys b) = eqDs a b
  | [], [] => by simp [D.pys, PyData.eqvAll, eqDs]
  | [], _ :: _ => by simp [D.pys, PyData.eqvAll, eqDs]
  | _ :: _, [] => by simp [D.pys, PyData.eqvAll, eqDs]
  | d :: a, e :: b => by simp only [D.pys, PyData.eqvAll, eqDs, eqvAll_pys a b, eqD]
@[simp] theorem q_tup : eqD (.tup a) (.tup b) = eqDs a b := by simp only [eqD, D.py, PyData.eqv, eqvAll_pys]
@[simp] theorem q_lst : eqD (.lst a) (.lst b) = eqDs a b := by simp only [eqD, D.py, PyData.eqv, eqvAll_pys]
@[simp] theorem q_rol : eqD (.ro a) (.lst b) = eqDs a b := by simp only [eqD, D.py, PyData.eqv, eqvAll_pys]
@[simp] theorem q_lro : eqD (.lst a) (.ro b) = eqDs a b := by simp only [eqD, D.py, PyData.eqv, eqvAll_pys]
@[simp] theorem qs_nil : eqDs [] [] = true := rfl
@[simp] theorem qs_nc : eqDs [] (d :: b) = false := rfl
@[simp] theorem qs_cn : eqDs (d :: a) [] = false := rfl
@[simp] theorem qs_cons : eqDs (d :: a) (e :: b) = (eqD d e && eqDs a b) := rfl
theorem beqS (x y : Str) : (x == y) = decide (x = y) := by
  by_cases h : x = y
  · subst h; simp
  · rw [decide_eq_false h, beq_false_of_ne h]
theorem qs_strs : ∀ ss tt : List Str, eqDs (ss.map D.str) (tt.map D.str) = decide (ss = tt)
  | [], [] => by simp
  | [], _ :: _ => by simp
  | _ :: _, [] => by simp
  | s :: ss, t :: tt => by
    simp only [List.map_cons, qs_cons, q_str, qs_strs ss tt, List.cons.injEq, Bool.decide_and, beqS]
@[simp] theorem q_ns : eqD .non (.str x) = false := by simp [eqD, D.py, PyData.eqv]
@[simp] theorem q_sn : eqD (.str x) .non = false := by simp [eqD, D.py, PyData.eqv]
@[simp] theorem q_is : eqD (.int i) (.str x) = false := by simp [eqD, D.py, PyData.eqv]
@[simp] theorem q_si : eqD (.str x) (.int i) = false := by simp [eqD, D.py, PyData.eqv]
@[simp] theorem q_nn : eqD .non .non = true := by simp [eqD, D.py, PyData.eqv]
@[simp] theorem q_ni : eqD .non (.int i) = false := by simp [eqD, D.py, PyData.eqv]
@[simp] theorem q_in : eqD (.int i) .non = false := by simp [eqD, D.py, PyData.eqv]
@[simp] theorem q_bi : eqD (.bl p) (.int i) = ((if p then 1 else 0) == i) := by simp [eqD, D.py, PyData.eqv]
@[simp] theorem q_ib : eqD (.int i) (.bl p) = (i == (if p then 1 else 0)) := by simp [eqD, D.py, PyData.eqv]
@[simp] theorem q_ts : eqD (.tup a) (.str x) = false := by simp [eqD, D.py, PyData.eqv]
@[simp] theorem q_st : eqD (.str x) (.tup a) = false := by simp [eqD, D.py, PyData.eqv]
variable {st : Sto}
theorem in_tup : mIn p d (.tup l) st = if okD d && okD (.tup l) then some (.bl (if p then !l.any fun z => eqD z d else l.any fun z => eqD z d)) else none := by cases d <;> rfl
theorem in_lst : mIn p d (.lst l) st = if okD d && okD (.lst l) then some (.bl (if p then !l.any fun z => eqD z d else l.any fun z => eqD z d)) else none := by cases d <;> rfl
theorem in_ro : mIn p d (.ro l) st = if okD d && okD (.ro l) then some (.bl (if p then !l.any fun z => eqD z d else l.any fun z => eqD z d)) else none := by cases d <;> rfl
theorem any_strs {x : Str} : ∀ ss : List Str, ((ss.map D.str).any fun z => eqD z (.str x)) = decide (x ∈ ss)
  | [] => by simp
  | s :: ss => by
    rw [List.map_cons, List.any_cons, any_strs ss, q_str]
    simp only [List.mem_cons, Bool.decide_or, beqS]
    congr 1
    exact decide_eq_decide.mpr ⟨Eq.symm, Eq.symm⟩
@[simp] theorem i_non : mIs .non .non st = some (.bl true) := rfl
@[simp] theorem i_tn : mIs (.tup l) .non st = some (.bl false) := rfl
@[simp] theorem i_ln : mIs (.lst l) .non st = some (.bl false) := rfl
@[simp] theorem i_sn : mIs (.str x) .non st = some (.bl false) := rfl
@[simp] theorem i_in : mIs (.int i) .non st = some (.bl false) := rfl
@[simp] theorem i_bn : mIs (.bl p) .non st = some (.bl false) := rfl
@[simp] theorem i_rn : mIs (.ref n) .non st = some (.bl false) := rfl
end
section
variable {ρ : Env} {t : G Bool} {f : G D} {d e g : D} {ds : List D} {st : Sto} {n m k : Nat}
theorem k_t2 : compGo ρ (.tp [.nm n, .nm m]) t f (.tup [d, e] :: ds) st = (t ((ρ.set n (some d)).set m (some e)) st).nox.bind (kCo ρ (.tp [.nm n, .nm m]) t f ds ((ρ.set n (some d)).set m (some e))) := by
  simp only [compGo, Pat.set, Pats.set, List.length_cons, List.length_nil, if_true]
  rfl
theorem k_t3 : compGo ρ (.tp [.nm n, .nm m, .nm k]) t f (.tup [d, e, g] :: ds) st = (t (((ρ.set n (some d)).set m (some e)).set k (some g)) st).nox.bind (kCo ρ (.tp [.nm n, .nm m, .nm k]) t f ds (((ρ.set n (some d)).set m (some e)).set k (some g))) := by
  simp only [compGo, Pat.set, Pats.set, List.length_cons, List.length_nil, if_true]
  rfl
end
@[simp] theorem c_1n {d : D} {l : List D} {st : Sto} : mSl (.tup (d :: l)) (some 1) none st = some (.tup l) := by
  show some (D.tup _) = _
  congr 2
  unfold cutD
  rw [show HT.sIx (d :: l).length 0 (some 1) = 1 from by rw [show (1 : Int) = ((1 : Nat) : Int) from rfl, HT.sIx_nat]; simp, HT.sIx_none]
  simp
@[simp] theorem o_all {l : List D} {st : Sto} : mAll [.lst l] st = (bls l).map fun bs => .bl (bs.all id) := rfl
@[simp] theorem b_nil : bls [] = some [] := rfl
@[simp] theorem b_cons {b : Bool} {l : List D} : bls (.bl b :: l) = (bls l).map (b :: ·) := rfl
end DL

set_option Elab.async false
set_option linter.all false
set_option maxRecDepth 100000
set_option maxHeartbeats 2000000
/-! # A law's end: the script, what the text has written -/
namespace DL
open PySem PySem.Spec L2
open PyProof.Rows hiding St
def spL (P : Program) (K : PySem.W.Frag) (w : World) (m : List D → Sto → Out D) : Sp := fun vs H Q _ => ∀ base : Heap, ∃ β ds st, Reps ⟨P, K, w, base⟩ β H vs ds ∧ StoOk ⟨P, K, w, base⟩ β H st ∧ vs.length = 1 ∧ (m ds st).sat (PostV ⟨P, K, w, base⟩ Q β H) (fun _ _ => False)
section
variable {P : Program} {w : World} {K : PySem.W.Frag} {mg : Str → Option Value} {base : Heap} {m : List D → Sto → Out D}
theorem FnD.law {k : Nat} {f : Addr} {fd : FuncData} {x : Str} (F : FnD P w K mg base k f fd [x] m) : FnOk P w K mg base (L2.CX P w) k f fd [x] (spL P K w m) := FnOk.imp F fun _ _ _ _ h => by
  obtain ⟨β, ds, st, r, S, hl, q⟩ := h base
  exact ⟨β, ds, st, r, S, hl, q.mono (fun _ _ z => z) fun _ _ z => z.elim⟩
theorem reps_ints {K : Zx} {β : Bx} {H : Hp} : ∀ ns : List Int, Reps K β H (ns.map V.int) (ns.map D.int)
  | [] => .nil
  | n :: ns => .cons (.int n) (reps_ints ns)
theorem spL_of (e : ∀ ns : List Int, ∃ st, m [.ro (ns.map D.int)] [] = .ok (.bl true) st) {H : Hp} {a : Addr} {ns : List Int} (hl : ns.length ≤ 63) (O : Only H) (S : SqL K H a (ns.map V.int)) : spL P K w m [.ref a] H (fun v _ => v = .bl true) fun _ _ _ => False := by
  obtain ⟨st, h⟩ := e ns
  intro base
  have SR : SqR ⟨P, K, w, base⟩ H a (ns.map V.int) := by
    rcases S with (h1 | h1) | h1
    · rcases O a with h2 | ⟨o, xs, h2⟩ <;> rw [h1] at h2 <;> cases h2
    · exact .inl h1
    · exact .inr h1
  refine ⟨⟨[], []⟩, [.ro (ns.map D.int)], [], .cons (.ro SR (reps_ints ns) (by rw [List.length_map]; exact Nat.le_trans hl (by decide))) .nil, ⟨rfl, List.nodup_nil, fun n a o h1 => by simp at h1, fun p hp => by cases hp⟩, rfl, ?_⟩
  rw [h]
  intro v β' H' _ _ r
  cases r
  rfl
theorem cx_no {H : Hp} {s : Shared} {e : Value} {s' : Shared} (h : L2.CX P w [] H s (fun _ _ _ => False) e s') : False := by
  obtain ⟨_, _, _, _, _, _, _, _, _, _, _, _, z⟩ := h
  exact z
/-- a table as it is written: its entries, what each is -/
inductive TabAt (K : PySem.W.Frag) : List DictEntry → List (Str × D) → Prop
  | nil : TabAt K [] []
  | cons {h : Int} {x : Str} {t : Tok} {u : Value} {v : V} {d : D} {es : List DictEntry} {tab : List (Str × D)} (r : RelV v u) (q : ∀ (Z : Zx) β H, Z.K = K → Rep Z β H v d) (z : TabAt K es tab) : TabAt K (⟨h, .str x t, u⟩ :: es) ((x, d) :: tab)
theorem tab_none : ∀ {es : List DictEntry} {tab : List (Str × D)}, TabAt K es tab → es.any (·.refKey) = false
  | _, _, .nil => rfl
  | _, _, .cons _ _ z => by
    rw [List.any_cons, tab_none z]
    rfl
theorem tab_find (z : Str) : ∀ {es : List DictEntry} {tab : List (Str × D)}, TabAt K es tab → match tab.lookup z with
    | some x => ∃ e v, es.find? (·.key.isStr z) = some e ∧ RelV v e.val ∧ ∀ (Z : Zx) β H, Z.K = K → Rep Z β H v x
    | none => es.find? (·.key.isStr z) = none
  | _, _, .nil => rfl
  | _, _, .cons (x := x) (t := t) (u := u) (v := v) (h := h) r q y => by
    rw [List.lookup_cons, List.find?_cons]
    by_cases e : x = z
    · subst e
      rw [beq_self_eq_true]
      have : (Value.str x t).isStr x = true := by
        show (x == x) = true
        exact beq_self_eq_true x
      simp only [this]
      exact ⟨_, v, rfl, r, q⟩
    · have e1 : (z == x) = false := beq_false_of_ne (Ne.symm e)
      have e2 : (Value.str x t).isStr z = false := by
        show (x == z) = false
        exact beq_false_of_ne e
      simp only [e1, e2]
      exact tab_find z y
theorem ktab_of {d : Addr} {c : Value} {dd : Option Addr} {es : Array DictEntry} {n : Nat} {sl : Array (Option Value)} {tab : List (Str × D)} (l : K.lookup d = some ⟨c, dd, .dict es n, sl⟩) (h : TabAt K es.toList tab) : ∀ Z : Zx, Z.K = K → KTab Z d tab := by
  intro Z hZ z
  have f := tab_find z h
  unfold PySem.W.nsIn
  rw [hZ, l]
  cases q : tab.lookup z with
  | some x =>
    rw [q] at f
    obtain ⟨e, v, h1, h2, h3⟩ := f
    simp only [h1]
    exact ⟨_, rfl, _, v, rfl, h2, fun β H => h3 Z β H hZ⟩
  | none =>
    rw [q] at f
    simp only [show es.toList.find? (·.key.isStr z) = none from f, tab_none h]
    exact ⟨none, rfl, rfl⟩
/-- a tuple that the text has written -/
theorem rep_ktup {a : Addr} {dd : Option Addr} {its : Array Value} {n : Nat} {sl : Array (Option Value)} {xs : List V} {ds : List D} (l : K.lookup a = some ⟨.type "tuple", dd, .seq its n, sl⟩) (r : Vals xs its.toList) (q : ∀ (Z : Zx) β H, Z.K = K → Reps Z β H xs ds) (hl : ds.length ≤ 1000) (Z : Zx) (β : Bx) (H : Hp) (hZ : Z.K = K) : Rep Z β H (.ref a) (.tup ds) := by
  have e1 : its.size = ds.length := by
    rw [← (q Z β H hZ).length, r.length]
    simp
  exact .tup (.inr ⟨_, its, n, by rw [hZ]; exact l, rfl, rfl, by rw [e1]; exact Nat.le_trans hl (by decide), r⟩) (q Z β H hZ) (Nat.le_trans hl (by decide))
end
end DL

set_option Elab.async false
set_option linter.all false
set_option maxRecDepth 100000
set_option maxHeartbeats 2000000
/-! # Errors of one's own, a lambda handed to a def that tells what it raises -/
namespace DL
open PySem PySem.Spec L2
open PyProof.Rows hiding St
open LamX hiding takes0
/-! ### raise -/
def sRaise (c : Str) : G Fl := fun _ st => .exn ⟨c, none⟩ st
/-- an error's class of the text, over ValueError, without an __init__ of its own; B: the one that is caught -/
structure XC (K : PySem.W.Frag) (mg : Str → Option Value) (n : Str) (B : Addr) (a : Addr) : Prop where
  g : mg n = some (.ref a)
  ex : PySem.W.excIn K a [.type "ValueError", .type "Exception", .type "BaseException", .type "object"] "ValueError.__new__" = true
  kp : PySem.W.keepIn K (.ref a) = true
  b : PySem.W.subIn K (.ref a) (.type "BaseException") = some true
  t : PySem.W.typeIn K (.ref a) = some (.type "type")
  is : ExcC K a
  up : PySem.W.exmOne K (.ref a) (.ref B) = some true
section
variable {X : Cx} {W : WX} {B a : Addr}
theorem ds_raise {x m : Str} {j : Nat} {p p2 pos pos' : Pos} (hc : X.calm = true) (tk : Takes X W) (C : XC X.K X.mg x B a) (hg : Gl X x) (hdb : (x == ("__debug__" : Str)) = false := by decide) : DS X W (.Raise (some (.Call (.Name x p) [.Constant (.str m) j p2] [] pos)) none pos') (sRaise x) := by
  refine PSmono (ps_raise hc tk (pmk_own PySem.F.excBase_ValueError C.ex C.g C.kp (raises_own C.b C.t) hg hdb)) fun D' σ H h => ?_
  obtain ⟨β, ρ, st, hρ, hs, h⟩ := h
  exact h (.ref a) none σ β H (Ext.refl β H) hs ⟨C.g, rfl⟩
end
/-! ### what the clause gives back, by the error's class -/
def SE (Y : Cx) (i : Nat) (a : Addr) (e : Expr) (v : V) : Prop := PE Y e (fun σ H Q => σ[i]? = some (some (.ref a)) ∧ Q v H)
section
variable {Y : Cx} {i : Nat} {a D : Addr} {t u w : Expr} {v v' : V} {pos p p1 p2 : Pos} {b : Bool}
theorem se_str {x : Str} {j : Nat} : SE Y i a (.Constant (.str x) j pos) (.str x) := PEmono pe_str fun _ _ _ h => h.2
theorem se_is {e C : Str} {c : Addr} (hc : CallR Y (.builtin "isinstance") (rIsE Y.K D a)) (hN : Y.N[i]? = some e) (hv : Vis Y.env.scope e) (hg : Gl Y "isinstance") (hm : Y.mg "isinstance" = none) (hC : Gl Y C) (gC : Y.mg C = some (.ref c)) (hk : PySem.W.kitOne Y.K (.ref D) (.ref c) = some b)
    (hd : (e == ("__debug__" : Str)) = false := by decide) (hd2 : (e == ("__classdict__" : Str)) = false := by decide) (hd3 : (C == ("__debug__" : Str)) = false := by decide) :
    SE Y i a (.Call (.Name "isinstance" p) [.Name e p1, .Name C p2] [] pos) (.bl b) :=
  PEmono (pe_callB hc hg hm (by decide +kernel) (pa_cons (pe_var (i := i) hN hv hd hd2) (pa_cons (pe_glob hC gC (v := .ref c) rfl hd3) pa_nil))) fun σ H Q h =>
    ⟨.ref a, h.1, .ref c, .ref c, b, rfl, fun u r => r, hk, h.2⟩
theorem se_if (ht : SE Y i a t (.bl b)) (hu : b = true → SE Y i a u v) (hw : b = false → SE Y i a w v) (he : ∀ whole, isTrue t Y.env whole = (do let v ← whole; standAt t.pos; holding [v] (truthy v)) := by exact fun _ => rfl) : SE Y i a (.IfExp t u w pos) v := by
  refine ⟨fun pins s σ H Q I h => ?_⟩
  refine wpAny_IfExp (thn ((pt_truth ht he).run pins s σ H (fun k H' => k = b ∧ H' = H) I ⟨h.1, b, rfl, rfl, rfl⟩) fun d s1 ⟨H1, I1, q1⟩ => ?_)
  obtain ⟨rfl, rfl⟩ := q1
  cases d with
  | true => exact (hu rfl).run pins s1 σ _ Q I1 h
  | false => exact (hw rfl).run pins s1 σ _ Q I1 h
end
/-! ### try: work() except B as e: return .. / return .. -/
/-- what it makes of the lambda's reading: R: what an error's class is told as -/
def TTw (K : PySem.W.Frag) (CS : Addr) (R : Addr → V → Prop) (z : V) : (XK → Hp → VK → Prop) → Hp → VK → Prop := fun tl H Q =>
  tl (fun cls d H' => ∃ D v, cls = .ref D ∧ d = none ∧ R D v ∧ PySem.W.exmOne K cls (.ref CS) = some true ∧ Q v H') H fun _ H' => Q z H'
section
variable {X : Cx}
theorem wrong_gives {Ng : List Str} {x a e n q : Str} {sg : Scope} {g CS : Addr} {cdg : Value} {p1 p2 p3 p4 p6 p7 p8 p10 : Pos} {ret out : Expr} {z : V} {R : Addr → V → Prop}
    (hge : sg.names.lookup e = some .globalImplicit) (hme : X.mg e = some (.ref CS)) (hde : (e == ("__debug__" : Str)) = false) (h0 : ∀ f : Addr, (L2.start Ng [V.ref f])[0]? = some (some (V.ref f)))
    (hN : Ng.Nodup) (hi : Ng[1]? = some n) (hln : ∀ (A : Around) (s : Shared) (H : Hp), (cxOf C8.CX0 X.prog X.w X.K X.mg X.base Ng x sg g cdg A X.stack s H C8.E0).nox.env.kindOf n = some .local)
    (hout : ∀ (Y : Cx), PE Y out (tC z))
    (hret : ∀ (A : Around) (s : Shared) (H : Hp) (b D : Addr) (oe : Obj) (pn : List (Addr × Obj)) (v : V), Zc (.ref D) none oe → (∃ vs, oe.data = .fields vs) → R D v →
      SE ((cxOf C8.CX0 X.prog X.w X.K X.mg X.base Ng x sg g cdg A X.stack s H C8.E0).nox.suite b ((b, oe) :: pn)) 1 b ret v)
    (hsw : ∀ (env : PySem.Env), swapsWith (.Call (.Name a p1) [] [] p2) none p3.line env = pure false := by intro _; rfl) :
    GivesTo X Ng x sg g cdg [.Try [.Expr (.Call (.Name a p1) [] [] p2) p3] [.ExceptHandler (some (.Name e p4)) (some n) [.Return (some ret) p6] p7] [] [] p8, .Return (some out) p10] a q (TTw X.K CS R z) := by
  intro f c' s H Q tl act hc h
  have hgl : Gl (cxOf C8.CX0 X.prog X.w X.K X.mg X.base Ng x sg g cdg X.A X.stack s H C8.E0).nox e := hge
  let ts : Addr → Value → Option Addr → TS := fun b cls d D' σ H => ∃ D v, cls = .ref D ∧ d = none ∧ R D v ∧ (∃ σ' : L2.St, σ = List.set σ' 1 (some (.ref b))) ∧ D'.rt v H
  refine ⟨_, pss_cons (ps_try_as (X := (cxOf C8.CX0 X.prog X.w X.K X.mg X.base Ng x sg g cdg X.A X.stack s H C8.E0).nox) (c := .ref CS) (i := 1) (ts := ts)
      (tb := fun W D σ H => ∃ Ech : XK, (∀ cls d σ' H', Ech cls d H' → W cls d σ' H') ∧ σ[0]? = some (some (.ref f)) ∧ H c' = some (CodeO c' q) ∧ tl Ech H (fun _ H' => D.nx σ H'))
      rfl rfl hN hi (hln X.A s H) ⟨hgl, hde, .inl hme⟩ takes0 (fun W pn xe tk _ => ?_) (fun b oe cls d pn hz hd => ?_)) (pss_one (ps_ret (hout _))), ?_⟩
  · refine ⟨fun pins s' σ H' D I h' => ?_⟩
    obtain ⟨Ech, hW, h1, h2, h3⟩ := h'
    have hp := act W pn xe Ech p1 p2 tk hW
    have hq := pss_one (ps_expr (pos := p3) hp (hsw _))
    exact hq.run pins s' σ H' D I ⟨h1, h2, h3⟩
  · refine ⟨fun pins s' σ H' D' I h' => ?_⟩
    obtain ⟨D, v, rfl, rfl, hR, ⟨σ', hσ⟩, q⟩ := h'
    have hl : σ.length = Ng.length := I.len
    have h1 : σ[1]? = some (some (.ref b)) := by
      rw [hσ, List.length_set] at hl
      rw [hσ, List.getElem?_set_self (by rw [hl]; exact (List.getElem?_eq_some_iff.mp hi).1)]
    exact (pss_one (ps_ret (hret X.A s H b D oe pn v hz hd hR))).run pins s' σ H' D' I ⟨h1, q⟩
  · refine ⟨fun cls d H' => ∃ D v, cls = .ref D ∧ d = none ∧ R D v ∧ PySem.W.exmOne X.K cls (.ref CS) = some true ∧ Q v H', fun cls d σ' H' ⟨D, v, e1, e2, e3, e4, e5⟩ => ⟨true, e4, fun _ b _ => ⟨D, v, e1, e2, e3, ⟨σ', rfl⟩, e5⟩, fun hb => by cases hb⟩, h0 f, hc, h⟩
end
theorem ext_lam {β : Bx} {H H1 : Hp} (e : ExtN H H1) : Ext β H β H1 :=
  ⟨⟨[], by simp, by simp⟩, rfl, fun b o _ h n => e b o h n, fun b xs h => e b _ h (fun _ z => by cases z), fun b o u h => e b _ h (fun _ z => by cases z), fun b o h n => ⟨o, e b o h n, n⟩, fun c q h => e c _ h fun ps => codeO_ne ps⟩
/-- the tables of a store -/
def tabsOf (K : Zx) (st : Sto) : List (Addr × Str) := st.filterMap fun o => match o with
  | .tab d q => some (tabAddr K d, q)
  | _ => none
theorem tabsOf_mem {K : Zx} {st : Sto} {n : Nat} {d q : Str} (h : st[n]? = Option.some (SO.tab d q)) : ((tabAddr K d : Addr), q) ∈ tabsOf K st := List.mem_filterMap.mpr ⟨.tab d q, List.mem_iff_getElem?.mpr ⟨n, h⟩, rfl⟩
theorem tabsOf_inv {K : Zx} {st : Sto} {p : Addr × Str} (h : p ∈ tabsOf K st) : ∃ (n : Nat) (d q : Str), st[n]? = Option.some (SO.tab d q) ∧ p = (tabAddr K d, q) := by
  obtain ⟨o, ho, e⟩ := List.mem_filterMap.mp h
  obtain ⟨n, hn⟩ := List.mem_iff_getElem?.mp ho
  cases o <;> simp at e
  exact ⟨n, _, _, hn, e.symm⟩
theorem StoOk.tabAt {K : Zx} {β : Bx} {H : Hp} {st : Sto} (S : StoOk K β H st) {n : Nat} {d q : Str} (h : st[n]? = Option.some (SO.tab d q)) : ∃ a, β.lo[n]? = Option.some a ∧ a = tabAddr K d ∧ TabS H a q := by
  have hl : n < β.lo.length := by
    rw [S.len]
    exact (List.getElem?_eq_some_iff.mp h).1
  have ha : β.lo[n]? = Option.some β.lo[n] := List.getElem?_eq_getElem hl
  obtain ⟨h1, h2⟩ := S.obj n _ _ ha h
  exact ⟨_, ha, h1, h2⟩
theorem StoOk.tabs {K : Zx} {β : Bx} {H : Hp} {st : Sto} (S : StoOk K β H st) : Tabs (tabsOf K st) H := fun p hp => by
  obtain ⟨n, d, q, h, rfl⟩ := tabsOf_inv hp
  obtain ⟨a, _, e, t⟩ := S.tabAt h
  rw [e] at t
  exact t
theorem StoOk.tabU {K : Zx} {β : Bx} {H : Hp} {st : Sto} (S : StoOk K β H st) {n : Nat} {d q : Str} (h : st[n]? = Option.some (SO.tab d q)) : ∀ p ∈ tabsOf K st, p.1 = tabAddr K d → p.2 = q := fun p hp e => by
  obtain ⟨n', d', q', h', rfl⟩ := tabsOf_inv hp
  obtain ⟨a, ha, e1, _⟩ := S.tabAt h
  obtain ⟨a', ha', e2, _⟩ := S.tabAt h'
  have ee : a' = a := e2.trans ((show tabAddr K d' = tabAddr K d from e).trans e1.symm)
  subst ee
  obtain ⟨z1, e3⟩ := List.getElem?_eq_some_iff.mp ha
  obtain ⟨z2, e4⟩ := List.getElem?_eq_some_iff.mp ha'
  have hn : n = n' := (List.getElem_inj S.nd).mp (e3.trans e4.symm)
  subst hn
  rw [h] at h'
  cases h'
  rfl
theorem StoOk.lam {K : Zx} {β : Bx} {H H1 : Hp} {st : Sto} (S : StoOk K β H st) (e : ExtN H H1) (t : Tabs (tabsOf K st) H1) : StoOk K β H1 st := by
  have ex := ext_lam (β := β) e
  refine ⟨S.len, S.nd, fun n a o h1 h2 => ?_, fun p hp => let ⟨u, hu, n⟩ := S.priv p hp; ⟨u, e _ _ hu n, n⟩⟩
  have r := S.obj n a o h1 h2
  cases o with
  | lst ds => obtain ⟨xs, h, r⟩ := r; exact ⟨xs, e _ _ h fun _ z => (by cases z), Reps.ext ex _ _ r⟩
  | dK kvs => obtain ⟨vs, h, l, k, r⟩ := r; exact ⟨vs, e _ _ h fun _ z => (by cases z), l, k, Reps.ext ex _ _ r⟩
  | dN kvs => obtain ⟨es, h, l, k, r1, r2⟩ := r; exact ⟨es, e _ _ h fun _ z => (by unfold dictN at z; cases z), l, k, Reps.ext ex _ _ r1, Reps.ext ex _ _ r2⟩
  | ins c fs => obtain ⟨C, dx, vs, hc, h, l, r⟩ := r; exact ⟨C, dx, vs, hc, e _ _ h fun _ z => (by cases z), l, Reps.ext ex _ _ r⟩
  | fN kvs => obtain ⟨o, es, h, l, k, r1, r2⟩ := r; exact ⟨o, es, e _ _ h fun _ z => (by cases z), l, k, Reps.ext ex _ _ r1, Reps.ext ex _ _ r2⟩
  | tab d' q' =>
    refine ⟨r.1, ?_⟩
    rw [r.1]
    exact t _ (tabsOf_mem h2)
/-- work handed to the def that tells what it raises; tw: the errors' words, dz: if nothing is raised -/
def gWrong (q : Str) (tw : List (Str × D)) (dz : D) (gb : G D) : G D := fun ρ (st : Sto) => match st[0]? with
  | some (SO.tab d' q') => if d' = "law" ∧ q' = q then (match gb ρ st with
    | .ok _ s1 => .ok dz s1
    | .exn x s1 => (match x.fld, tw.lookup x.cls with
      | none, some d => .ok d s1
      | _, _ => .bad)
    | .bad => .bad) else .bad
  | _ => .bad
/-- the name of a lambda of the law's -/
def lawQ : Str := ("law" : Str) ++ (".<locals>." : Str)
def lamQ : Str := lawQ ++ ("<lambda>" : Str)
section
variable {X : Cx} {W : WX}
theorem de_wrong {x a : Str} {stg : Stmt} {g : Addr} {fdg : FuncData} {Ng : List Str} {CS : Addr} {R : Addr → V → Prop} {z : V} {c P : Addr} {k : Nat} {params : Arguments} {body : Expr} {scope : Scope} {p lpos pos : Pos} {tw : List (Str × D)} {dz : D} {gb : G D}
    (F : Fun X.K x x stg g fdg) (hb : L2.Binds X.K fdg [a] []) (Sg : FnScope Ng [a] (defScope stg)) (hNg : Ng[0]? = some a) (hva : Vis (defScope stg) a) (hg : Gl X x) (hm : X.mg x = some (.ref g))
    (hG : ∀ cdv, GivesTo X Ng x (defScope stg) g cdv (defBody stg) a (X.env.qual ++ "<lambda>") (TTw X.K CS R z))
    (TB : TabB X.base X.mg c P) (hcode : X.env.code = .ref c) (hP : tabAddr X.K "law" = P) (hr : Room (k + 2) X.A) (L : LamS X.env.scope scope) (hdef : defaultsOf params X.env = ([], []))
    (hbind : ∀ (q : Str) (cl : List (Str × Addr)) (pm cv ctv : Value), bindArgs (PySem.W.kla_fn "<lambda>" q params body scope cl pm cv ctv) ⟨[], []⟩ = pure [])
    (ht : ∀ n d, tw.lookup n = some d → ∃ D v, X.mg n = some (.ref D) ∧ (∀ (Z : Zx) β H, Rep Z β H v d) ∧ R D v ∧ PySem.W.exmOne X.K (.ref D) (.ref CS) = some true) (hz : ∀ (Z : Zx) β H, Rep Z β H z dz)
    (hq : X.env.qual = lawQ)
    (hbody : ∀ (A : Around) (outer : List PySem.Env) (s : Shared) (H : Hp) (E : XK) (f c' : Addr), Room k (A.deeper (lamEnv X scope s.heap.objs.size f c')) → DE (lamCx X A outer s H E scope f c') (WE' E) body gb)
    (hdb : (x == ("__debug__" : Str)) = false := by decide) (hd : (a == ("__debug__" : Str)) = false := by decide) (hcd : (a == ("__classdict__" : Str)) = false := by decide) :
    DE X W (.Call (.Name x p) [.Lambda params body scope lpos] [] pos) (gWrong lamQ tw dz gb) := by
  have eq : X.env.qual ++ ("<lambda>" : Str) = lamQ := by
    rw [hq]
    rfl
  rw [eq] at hG
  obtain ⟨oc, od, kV, doc, pm, an, cdv, ct, osl, rfl, lk, hcg⟩ := F.ex
  refine ⟨fun pins s0 σ H Q I h => ?_⟩
  obtain ⟨β, ρ, st, hρ, hs, h⟩ := h
  unfold gWrong at h
  split at h
  · rename_i d' q' h0
    split at h
    · rename_i hq
      obtain ⟨hd', hq⟩ := hq
      subst hd'
      subst hq
      have hmem : ((P : Addr), lamQ) ∈ tabsOf (zOf X) st := by
        rw [← hP]
        exact tabsOf_mem h0
      have huq : ∀ p ∈ tabsOf (zOf X) st, p.1 = P → p.2 = lamQ := by
        rw [← hP]
        exact hs.tabU h0
      refine (pe_lamcall (T := tabsOf (zOf X) st) (t := fun E => tD (zOf X) X.mg (WE' E) gb) hg hm F.kp lk hcg hb Sg hNg hva (by rw [eq]; exact hG cdv) TB hcode (by rw [eq]; exact hmem) (fun p hp z => by rw [eq]; exact huq p hp z) hr L hdef hbind (fun A outer s H E f c' h => hbody A outer s H E f c' h) hdb hd hcd).run pins s0 σ H Q I ?_
      refine ⟨hs.tabs, fun H1 eN T1 => ?_⟩
      have ex := ext_lam (β := β) eN
      refine ⟨β, ρ, st, hρ.ext ex, hs.lam eN T1, ?_⟩
      cases e : gb ρ st with
      | bad => rw [e] at h; exact h.elim
      | ok d s1 =>
        rw [e] at h
        exact fun v β' H' e' S' r' => h z β' H' (ex.trans e') S' (hz _ _ _)
      | exn y s1 =>
        rw [e] at h
        refine fun cls dd β' H' e' S' xr => ?_
        have h : Out.sat (match y.fld, tw.lookup y.cls with
          | none, some d => Out.ok d s1
          | _, _ => Out.bad) (PostV (zOf X) Q β H) _ := h
        split at h
        · rename_i d hf hd'
          obtain ⟨D, v, g1, g2, g3, g4⟩ := ht _ _ hd'
          obtain ⟨m1, m2⟩ := xr
          rw [g1] at m1
          cases m1
          rw [hf] at m2
          exact ⟨D, v, rfl, m2, g3, g4, h v β' H' (ex.trans e') S' (g2 _ _ _)⟩
        · exact h.elim
    · exact h.elim
  · exact h.elim
end
end DL

set_option Elab.async false
set_option linter.all false
set_option maxRecDepth 100000
set_option maxHeartbeats 2000000
/-! # A written table that is looked up on the spot; a tuple many times over -/
namespace DL
open PySem PySem.Spec L2
open PyProof.Rows hiding St
open LamX hiding takes0
def gTabIx (tab : List (Str × Str)) (f : G D) : G D := fun ρ st => (f ρ st).bind fun d s1 => match d with
  | .str z => oout ((tab.lookup z).map D.str) s1
  | _ => .bad
def keyOfS (p : Str × Str) : Key × V := (.inr p.1, .str p.2)
theorem valV_tab (z : Str) : ∀ tab : List (Str × Str), valV (tab.map keyOfS) (.inr z : Key) = (tab.lookup z).map V.str
  | [] => rfl
  | (a, b) :: tab => by
    have ih := valV_tab z tab
    rw [List.map_cons, List.lookup_cons]
    by_cases e : a = z
    · subst e
      rw [valV_pos (p := keyOfS (a, b)) (k := (.inr a : Key)) rfl, beq_self_eq_true]
      rfl
    · rw [show (z == a) = false from beq_false_of_ne (Ne.symm e)]
      unfold valV at ih ⊢
      rw [List.find?_cons]
      rw [show decide ((keyOfS (a, b)).1 = (.inr z : Key)) = false from decide_eq_false fun q => e (Sum.inr.inj q)]
      exact ih
def tabExprs : List (Str × Str) → List (Nat × Pos × Nat × Pos) → List (Option Expr) × List Expr
  | (a, b) :: t, (i, p, j, q) :: r => let x := tabExprs t r; (some (.Constant (.str a) i p) :: x.1, .Constant (.str b) j q :: x.2)
  | _, _ => ([], [])
def tabTrs : List (Str × Str) → List (TE × TE)
  | [] => []
  | (a, b) :: t => (tC (.str a), tC (.str b)) :: tabTrs t
section
variable {X : Cx} {W : WX} {pos pos2 : Pos} {e : Expr} {f : G D} {k : Nat}
theorem pps_str {a b : Str} {i j : Nat} {p q : Pos} {ks : List (Option Expr)} {vs : List Expr} {t : List (Str × Str)} (h : PPs X pos ks vs (tabTrs t)) : PPs X pos (some (.Constant (.str a) i p) :: ks) (.Constant (.str b) j q :: vs) (tabTrs ((a, b) :: t)) := pps_cons pe_str pe_str h
theorem tabPairs : ∀ (t : List (Str × Str)) (σ : St) (H : Hp) (Q : List (V × V) → Hp → Prop), Q (t.map fun p => (V.str p.1, V.str p.2)) H → tPairs (tabTrs t) σ H Q
  | [], _, _, _, q => q
  | (a, b) :: t, σ, H, Q, q => tabPairs t σ H _ q
theorem de_tabIx {tab : List (Str × Str)} {ks : List (Option Expr)} {vs : List Expr} (hr : Room k X.A) (h : PPs X pos ks vs (tabTrs tab)) (hm : mergeK [] (tab.map keyOfS) = tab.map keyOfS) (h15 : tab.length ≤ 15) (he : DE X W e f)
    (hall : ks.all (·.isSome) = true := by rfl) (hl : ks.length = vs.length := by rfl) (h0 : ks ≠ [] := by exact fun z => by cases z) (hk15 : ks.length ≤ 15 := by decide) (hs : NoSl e := by exact fun _ _ => rfl) :
    DE X W (.Subscript (.Dict ks vs pos) e pos2) (gTabIx tab f) := by
  refine PEmono (pe_dget (hu_of hr) (pe_disp h hall hl h0 hk15) he hs) fun σ H Q h => ?_
  obtain ⟨β, ρ, st, hρ, hst, h⟩ := h
  intro p hp
  refine tabPairs tab σ _ _ ⟨upd_same, tab.map keyOfS, ?_, by rw [List.length_map]; exact h15, ?_⟩
  · rw [List.map_map]
    exact List.map_congr_left fun x _ => rfl
  rw [hm]
  have e0 : upd (upd H p (.dK [])) p (.dK (tab.map keyOfS)) = upd H p (.dK (tab.map keyOfS)) := by
    funext b
    by_cases hb : b = p
    · rw [hb, upd_same, upd_same]
    · rw [upd_ne hb, upd_ne hb, upd_ne hb]
  rw [e0]
  have ex : Ext β H β (upd H p (.dK (tab.map keyOfS))) := Ext.new hp
  refine tD_intro (hρ.ext ex) (hst.fresh hp) ((Out.sat_bind h).mono (fun d s1 q => q) fun _ _ q => q.ext ex) (fun d s1 h1 v β1 H1 e1 S1 r1 => ?_) fun _ _ q => q
  split at h1
  · rename_i z
    cases r1
    obtain ⟨d3, q, p3⟩ := oout_sat h1
    cases hz : tab.lookup z with
    | none => rw [hz] at q; cases q
    | some y =>
      rw [hz] at q
      cases q
      have hd : H1 p = some (.dK (tab.map keyOfS)) := e1.keep _ _ (hst.nmem hp).1 upd_same fun _ z => by cases z
      refine ⟨p, .str y, rfl, ?_, p3 (.str y) β1 H1 (ex.trans e1) S1 (.str y)⟩
      have := DGet.k (kvs := tab.map keyOfS) (k := (.inr z : Key)) hd
      rw [valV_tab, hz] at this
      exact this
  · exact h1.elim
end
/-! ### xs * k of a tuple -/
def mRep : D → D → Sto → Option D
  | .tup l, .int k, _ => if l ≠ [] ∧ 2 ≤ k ∧ k ≤ 1000 ∧ l.length ≤ 1000 then some (.tup (List.replicate k.toNat l).flatten) else none
  | _, _, _ => none
theorem Reps.rep {K : Zx} {β : Bx} {H : Hp} {xs : List V} {l : List D} (r : Reps K β H xs l) : ∀ n, Reps K β H (List.replicate n xs).flatten (List.replicate n l).flatten
  | 0 => .nil
  | n + 1 => by
    rw [List.replicate_succ, List.replicate_succ, List.flatten_cons, List.flatten_cons]
    exact r.append (Reps.rep r n)
theorem Reps.repLen {l : List D} : ∀ n, (List.replicate n l).flatten.length = n * l.length
  | 0 => by simp
  | n + 1 => by
    rw [List.replicate_succ, List.flatten_cons, List.length_append, Reps.repLen n, Nat.succ_mul]
    omega
theorem od_rep {K : Zx} : OpD K (rRepT K) mRep := by
  intro β H st x y dx dy d Q rx ry S e q
  cases dx <;> cases dy <;> simp only [mRep, reduceCtorEq] at e
  case tup.int l k =>
    split at e
    · rename_i hz
      obtain ⟨h0, h1, h2, h3⟩ := hz
      have e := Option.some.inj e
      subst e
      cases ry
      cases rx with
      | tup hT r hl =>
        refine ⟨_, k, _, rfl, rfl, hT, ?_, h1, h2, by rw [r.length]; exact h3, fun p hp => ?_⟩
        · intro z
          subst z
          cases r
          exact h0 rfl
        · refine q _ _ (same_new hp) (.tup (.inl (.inl upd_same)) ((Reps.ext (Ext.new hp) _ _ r).rep _) ?_)
          rw [Reps.repLen]
          have : k.toNat ≤ 1000 := by omega
          exact Nat.le_trans (Nat.mul_le_mul this h3) (by rw [sizeLine_eq]; decide)
    · cases e
/-! ### a def whose code object's table is known: lambdas are made in it -/
structure LawT (K : PySem.W.Frag) (mg : Str → Option Value) (base : Heap) (d : Str) (st : Stmt) (f : Addr) (fd : FuncData) where
  c : Addr
  ex : ∃ (oc : Value) (od : Option Addr) (kV doc pm : Value) (an : Option Addr) (ct : Value) (osl : Array (Option Value)),
    fd = PySem.W.fnOf d d (defArgs st) (defBody st) (defScope st) .none kV doc pm an (.ref c) ct ∧ K.lookup f = some ⟨oc, od, .func fd, osl⟩ ∧ PySem.W.codeIn K (.ref c) d = true
  tb : TabB base mg c (tabAddr K d)
section
variable {P : Program} {w : World} {K : PySem.W.Frag} {mg : Str → Option Value} {base : Heap}
theorem fnD_ofC {d : Str} {st : Stmt} {f : Addr} {fd : FuncData} {N ps : List Str} {k : Nat} {g : G Fl} (F : LawT K mg base d st f fd) (S : FnScope N ps (defScope st))
    (hb : ∀ (A : Around) (outer : List PySem.Env) (s : Shared) (H : Hp) (E : XK), Room k (A.deeper (envOfC d (defScope st) s.heap.objs.size f (.ref F.c))) →
      DSs (cxOf (L2.CX P w) P w K mg base N d (defScope st) f (.ref F.c) A outer s H E) (WE' E) (defBody st) g) : FnD P w K mg base (k + 1) f fd ps (gFun N.length g) := by
  obtain ⟨c, ⟨oc, od, kV, doc, pm, an, ct, osl, rfl, lk, hcd⟩, tb⟩ := F
  refine fn_of lk hcd S (fun vs H Q E h => ?_) (fun A outer s H vs Q E hr h => ?_)
  · obtain ⟨β, ds, st, r, S, hl, h⟩ := h
    exact hl
  · obtain ⟨β, ds, st, r, S, hl, h⟩ := h
    refine ⟨_, hb A outer s H E hr, β, _, st, start_env r, S, (Out.sat_bind h).mono (fun r s1 q => ?_) fun _ _ q => fun c d σ β' H' e S r => q c d β' H' e S r⟩
    cases r with
    | nx ρ => exact fun σ β' H' e S r => q .non β' H' e S .non
    | rt d => exact q
    | bk ρ => exact q.elim
    | ct ρ => exact q.elim
end
/-! ### the law's end with the tables of the defs that make lambdas -/
section
variable {P : Program} {w : World} {K : PySem.W.Frag} {mg : Str → Option Value} {base : Heap} {m : List D → Sto → Out D}
theorem spL_ofT {tabs : List (Str × Str)} (nd : (tabs.map fun p => (tabAddr K p.1 : Addr)).Nodup) (e : ∀ (ns : List Int) (sc : D), sc = .ro (ns.map D.int) ∨ sc = .lst (ns.map D.int) → ∃ st, m [sc] (tabs.map fun p => SO.tab p.1 p.2) = .ok (.bl true) st) {H : Hp} {a : Addr} {ns : List Int} (hl : ns.length ≤ 63) (hT : ∀ p ∈ tabs, H (tabAddr K p.1) = some (.tbl #[])) (S : SqL K H a (ns.map V.int)) : spL P K w m [.ref a] H (fun v _ => v = .bl true) fun _ _ _ => False := by
  intro base
  have hz : (ns.map D.int).length ≤ sizeLine := by
    rw [List.length_map]
    exact Nat.le_trans hl (by decide)
  obtain ⟨sc, hsc, r⟩ : ∃ sc, (sc = .ro (ns.map D.int) ∨ sc = .lst (ns.map D.int)) ∧ Rep ⟨P, K, w, base⟩ ⟨tabs.map fun p => (tabAddr K p.1 : Addr), []⟩ H (.ref a) sc := by
    rcases S with (h1 | h1) | h1
    · refine ⟨_, .inr rfl, .lst h1 ⟨fun z => ?_, fun z => by cases z⟩ (reps_ints ns) hz⟩
      obtain ⟨p, hp, ep⟩ := List.mem_map.mp z
      rw [← ep, hT p hp] at h1
      cases h1
    · exact ⟨_, .inl rfl, .ro (.inl h1) (reps_ints ns) hz⟩
    · exact ⟨_, .inl rfl, .ro (.inr h1) (reps_ints ns) hz⟩
  obtain ⟨st, h⟩ := e ns sc hsc
  refine ⟨⟨tabs.map fun p => (tabAddr K p.1 : Addr), []⟩, [sc], tabs.map fun p => SO.tab p.1 p.2, .cons r .nil, ⟨by simp, nd, fun n a o h1 h2 => ?_, fun p hp => by cases hp⟩, rfl, ?_⟩
  · rw [List.getElem?_map] at h1 h2
    cases q : tabs[n]? with
    | none => rw [q] at h1; cases h1
    | some p =>
      rw [q] at h1 h2
      cases h1
      cases h2
      exact ⟨rfl, TabS.nil (hT p (List.mem_of_getElem? q))⟩
  · rw [h]
    intro v β' H' _ _ r
    cases r
    rfl
end
end DL

set_option Elab.async false
set_option linter.all false
set_option maxRecDepth 100000
set_option maxHeartbeats 2000000
/-! # Texts, methods of texts, enumerate -/
namespace DL
open PySem PySem.Spec L2
open PyProof.Rows hiding St
/-! ### methods of texts -/
def MtD (K : Zx) (r : V → List V → Hp → VK → Prop) (m : D → List D → Sto → Option D) : Prop := ∀ (β : Bx) (H : Hp) (st : Sto) (x : V) (dx : D) (xs : List V) (ds : List D) (d : D) (Q : VK), Rep K β H x dx → Reps K β H xs ds → StoOk K β H st → m dx ds st = some d →
  (∀ v H', Same H H' → Rep K β H' v d → Q v H') → r x xs H Q
def isStr : D → Bool
  | .str _ => true
  | _ => false
theorem isStr_rep {K : Zx} {β : Bx} {H : Hp} {x : V} {d : D} (h : isStr d = true) (r : Rep K β H x d) : ∃ a, x = .str a := by
  cases d <;> simp [isStr] at h
  cases r
  exact ⟨_, rfl⟩
def gM0 (m : D → List D → Sto → Option D) (f : G D) : G D := fun ρ st => (f ρ st).bind fun d s1 => if isStr d = true then oout (m d [] s1) s1 else .bad
def gM1 (m : D → List D → Sto → Option D) (f g : G D) : G D := fun ρ st => (f ρ st).bind fun d s1 => if isStr d = true then (g ρ s1).bind fun e s2 => oout (m d [e] s2) s2 else .bad
section
variable {X : Cx} {W : WX} {o e : Expr} {f g : G D} {id : String} {name : Str} {apos pos : Pos} {r : V → List V → Hp → VK → Prop} {m : D → List D → Sto → Option D}
theorem de_m0 (slot : Slot "str" name id) (ty : typeOf (.builtin id) = pure (.type "method_descriptor")) (rule : MtR X id r) (hm : MtD (zOf X) r m) (ho : DE X W o f)
    (hbase : attributeBase o name X.env (eval o X.env) = eval o X.env := by rfl) (hline : (apos.endLine == pos.line) = true := by rfl) : DE X W (.Call (.Attribute o name apos) [] [] pos) (gM0 m f) := by
  refine PEmono (pe_m0 slot ty rule ho hbase hline) fun σ H Q h => ?_
  obtain ⟨β, ρ, st, hρ, hs, h⟩ := h
  refine tD_intro hρ hs (Out.sat_bind h) (fun d s1 h1 v β1 H1 e1 S1 r1 => ?_) fun _ _ q => q
  split at h1
  · rename_i hs'
    obtain ⟨d3, q, p⟩ := oout_sat h1
    exact ⟨isStr_rep hs' r1, hm β1 H1 s1 v d [] [] d3 Q r1 .nil S1 q fun w' H' s' r' => p w' β1 H' (e1.trans (Ext.same s')) (S1.same s') r'⟩
  · exact h1.elim
theorem de_m1 (slot : Slot "str" name id) (ty : typeOf (.builtin id) = pure (.type "method_descriptor")) (rule : MtR X id r) (hm : MtD (zOf X) r m) (ho : DE X W o f) (he : DE X W e g)
    (hs' : starEach [e] X.env = [(false, eval e X.env)] := by rfl) (hbase : attributeBase o name X.env (eval o X.env) = eval o X.env := by rfl) (hline : (apos.endLine == pos.line) = true := by rfl) : DE X W (.Call (.Attribute o name apos) [e] [] pos) (gM1 m f g) := by
  refine PEmono (pe_m1 slot ty rule ho he hs' hbase hline) fun σ H Q h => ?_
  obtain ⟨β, ρ, st, hρ, hs, h⟩ := h
  refine tD_intro hρ hs (Out.sat_bind h) (fun d s1 h1 v β1 H1 e1 S1 r1 => ?_) fun _ _ q => q
  split at h1
  · rename_i hs'
    refine ⟨isStr_rep hs' r1, ?_⟩
    refine tD_intro (hρ.ext e1) S1 (Out.sat_bind h1) (fun d2 s2 h2 v2 β2 H2 e2 S2 r2 => ?_) fun _ _ q => q.ext e1
    obtain ⟨d3, q, p⟩ := oout_sat h2
    exact hm β2 H2 s2 v d [v2] [d2] d3 Q (Rep.ext e2 _ _ r1) (.cons r2 .nil) S2 q fun w' H' s' r' => p w' β2 H' ((e1.trans e2).trans (Ext.same s')) (S2.same s') r'
  · exact h1.elim
end
theorem strsD_map (ys : List Str) : strsD (ys.map D.str) = some ys := by
  induction ys with
  | nil => rfl
  | cons y ys ih => simp only [List.map_cons, strsD, ih, Option.map_some]
def joinD (a : Str) (l : List D) : Option D := match strsD l with
  | some ys => if (ys.map (·.length)).sum + ys.length * a.length ≤ 1000000 then some (.str (Txt.join a ys)) else none
  | none => none
def mJoin : D → List D → Sto → Option D
  | .str a, [.lst l], _ => joinD a l
  | .str a, [.tup l], _ => joinD a l
  | .str a, [.ref n], st => match st[n]? with
    | some (.lst l) => joinD a l
    | _ => none
  | _, _, _ => none
theorem joinD_some {a : Str} {l : List D} {d : D} (h : joinD a l = some d) : ∃ ys, strsD l = some ys ∧ (ys.map (·.length)).sum + ys.length * a.length ≤ 16777216 ∧ d = .str (Txt.join a ys) := by
  unfold joinD at h
  split at h
  · rename_i ys q
    split at h
    · rename_i hz
      cases h
      exact ⟨ys, q, Nat.le_trans hz (by decide), rfl⟩
    · cases h
  · cases h
section
variable {K : Zx}
abbrev rJoin (K : PySem.W.Frag) : V → List V → Hp → VK → Prop := fun x xs H Q => ∃ a p, ∃ ys : List Str, x = .str a ∧ xs = [.ref p] ∧ (SqL K H p (ys.map V.str) ∨ SqT K H p (ys.map V.str)) ∧ (ys.map (·.length)).sum + ys.length * a.length ≤ 16777216 ∧ Q (.str (Txt.join a ys)) H
theorem md_join : MtD K (rJoin K) mJoin := by
  intro β H st x dx xs ds d Q rx rs S e q
  match dx, ds, rs, e with
  | .str a, [.lst l], rs, e =>
    obtain ⟨ys, h1, h2, rfl⟩ := joinD_some (by simpa only [mJoin] using e)
    obtain ⟨v, rfl, r1⟩ := rs.one
    cases rx
    cases r1 with
    | lst g1 g2 g3 g4 =>
      have e1 := strsD_reps g3 h1
      subst e1
      exact ⟨_, _, ys, rfl, rfl, .inl (SqL.of g1), h2, q _ _ (Same.refl H) (.str _)⟩
  | .str a, [.tup l], rs, e =>
    obtain ⟨ys, h1, h2, rfl⟩ := joinD_some (by simpa only [mJoin] using e)
    obtain ⟨v, rfl, r1⟩ := rs.one
    cases rx
    cases r1 with
    | tup g1 g3 g4 =>
      have e1 := strsD_reps g3 h1
      subst e1
      exact ⟨_, _, ys, rfl, rfl, .inr g1, h2, q _ _ (Same.refl H) (.str _)⟩
  | .str a, [.ref n], rs, e =>
    obtain ⟨v, rfl, r1⟩ := rs.one
    cases rx
    cases r1 with
    | ref hm =>
      obtain ⟨o, ho, rel⟩ := S.get hm
      simp only [mJoin, ho] at e
      cases o with
      | lst l =>
        obtain ⟨ys, h1, h2, rfl⟩ := joinD_some e
        obtain ⟨xs, g1, g3⟩ := rel
        have e1 := strsD_reps g3 h1
        subst e1
        exact ⟨_, _, ys, rfl, rfl, .inl (SqL.of g1), h2, q _ _ (Same.refl H) (.str _)⟩
      | dK l => cases e
      | tab _ _ => cases e
      | dN _ => cases e
      | ins _ _ => cases e
      | fN _ => cases e
def mSplit : D → List D → Sto → Option D
  | .str a, [.str b], _ => if b.length ≠ 0 ∧ a.length ≤ 1000000 then some (.lst ((Txt.split a b).map D.str)) else none
  | _, _, _ => none
abbrev rSplit : V → List V → Hp → VK → Prop := fun x xs H Q => ∃ a b, x = .str a ∧ xs = [.str b] ∧ (b.length == 0) = false ∧ a.length + 2 ≤ sizeLine ∧ rNewStrs (Txt.split a b) H Q
theorem md_split : MtD K rSplit mSplit := by
  intro β H st x dx xs ds d Q rx rs S e q
  match dx, ds, rs, e with
  | .str a, [.str b], rs, e =>
    simp only [mSplit] at e
    split at e
    · rename_i hz
      cases e
      obtain ⟨v, rfl, r1⟩ := rs.one
      cases rx
      cases r1
      refine ⟨a, b, rfl, rfl, by simpa using hz.1, by rw [sizeLine_eq]; omega, fun p np => ?_⟩
      have hl : ((Txt.split a b).map D.str).length ≤ sizeLine := by
        rw [List.length_map, sizeLine_eq]
        have := PyProof.Rows.split_le a b
        omega
      exact q _ _ (same_new np) (.lst upd_same (S.nmem np) (reps_strs _) hl)
    · cases e
def mT0 (c : Str → Bool) : D → List D → Sto → Option D
  | .str a, [], _ => some (.bl (c a))
  | _, _, _ => none
theorem md_t0 {c : Str → Bool} : MtD K (fun x xs H Q => ∃ a, x = .str a ∧ xs = [] ∧ True ∧ Q (.bl (c a)) H) (mT0 c) := by
  intro β H st x dx xs ds d Q rx rs S e q
  match dx, ds, rs, e with
  | .str a, [], rs, e =>
    cases e
    cases rx
    cases rs
    exact ⟨a, rfl, rfl, trivial, q _ _ (Same.refl H) (.bl _)⟩
def mT1 (c : Str → Str → Bool) : D → List D → Sto → Option D
  | .str a, [.str b], _ => some (.bl (c a b))
  | _, _, _ => none
theorem md_t1 {c : Str → Str → Bool} : MtD K (fun x xs H Q => ∃ a b, x = .str a ∧ xs = [.str b] ∧ Q (.bl (c a b)) H) (mT1 c) := by
  intro β H st x dx xs ds d Q rx rs S e q
  match dx, ds, rs, e with
  | .str a, [.str b], rs, e =>
    cases e
    obtain ⟨v, rfl, r1⟩ := rs.one
    cases rx
    cases r1
    exact ⟨a, b, rfl, rfl, q _ _ (Same.refl H) (.bl _)⟩
abbrev mIsdigit := mT0 Txt.isdigit
abbrev mIsascii := mT0 Txt.isascii
abbrev mStartswith := mT1 Txt.startswith
end
section
variable {X : Cx} {W : WX} {o e : Expr} {f g : G D} {apos pos : Pos}
theorem de_join (ho : DE X W o f) (he : DE X W e g) (hs : starEach [e] X.env = [(false, eval e X.env)] := by rfl) (hbase : attributeBase o "join" X.env (eval o X.env) = eval o X.env := by rfl) (hline : (apos.endLine == pos.line) = true := by rfl) :
    DE X W (.Call (.Attribute o "join" apos) [e] [] pos) (gM1 mJoin f g) := de_m1 PySem.F.slot_str_join PySem.F.type_str_join mt_join md_join ho he hs hbase hline
theorem de_split (ho : DE X W o f) (he : DE X W e g) (hs : starEach [e] X.env = [(false, eval e X.env)] := by rfl) (hbase : attributeBase o "split" X.env (eval o X.env) = eval o X.env := by rfl) (hline : (apos.endLine == pos.line) = true := by rfl) :
    DE X W (.Call (.Attribute o "split" apos) [e] [] pos) (gM1 mSplit f g) := de_m1 PySem.F.slot_str_split PySem.F.type_str_split mt_split md_split ho he hs hbase hline
theorem de_startswith (ho : DE X W o f) (he : DE X W e g) (hs : starEach [e] X.env = [(false, eval e X.env)] := by rfl) (hbase : attributeBase o "startswith" X.env (eval o X.env) = eval o X.env := by rfl) (hline : (apos.endLine == pos.line) = true := by rfl) :
    DE X W (.Call (.Attribute o "startswith" apos) [e] [] pos) (gM1 mStartswith f g) := de_m1 PySem.F.slot_str_startswith PySem.F.type_str_startswith mt_startswith md_t1 ho he hs hbase hline
theorem de_isdigit (ho : DE X W o f) (hbase : attributeBase o "isdigit" X.env (eval o X.env) = eval o X.env := by rfl) (hline : (apos.endLine == pos.line) = true := by rfl) :
    DE X W (.Call (.Attribute o "isdigit" apos) [] [] pos) (gM0 mIsdigit f) := de_m0 PySem.F.slot_str_isdigit PySem.F.type_str_isdigit mt_isdigit md_t0 ho hbase hline
theorem de_isascii (ho : DE X W o f) (hbase : attributeBase o "isascii" X.env (eval o X.env) = eval o X.env := by rfl) (hline : (apos.endLine == pos.line) = true := by rfl) :
    DE X W (.Call (.Attribute o "isascii" apos) [] [] pos) (gM0 mIsascii f) := de_m0 PySem.F.slot_str_isascii PySem.F.type_str_isascii mt_isascii md_t0 ho hbase hline
end
/-! ### str(x), int(text) -/
section
variable {K : Zx}
def mStr : List D → Sto → Option D
  | [.int i], _ => if i.natAbs.log2 < 1920 then some (.str (toString i)) else none
  | [.str a], _ => some (.str a)
  | _, _ => none
abbrev rStr : List V → Hp → VK → Prop := fun xs H Q => (∃ i, xs = [.int i] ∧ i.natAbs.log2 < 1920 ∧ Q (.str (toString i)) H) ∨ ∃ a, xs = [.str a] ∧ Q (.str a) H
theorem call_str {X : Cx} : CallR X (.type "str") rStr := call_str_int.or SkE.call_str_str
theorem cd_str : CallD K rStr mStr := by
  intro β H st xs ds d Q r S e q
  match ds, r, e with
  | [.int i], r, e =>
    simp only [mStr] at e
    split at e
    · rename_i hz
      obtain ⟨v, rfl, r1⟩ := r.one
      cases r1
      cases e
      exact .inl ⟨_, rfl, hz, q _ _ (Same.refl H) (.str _)⟩
    · cases e
  | [.str a], r, e => obtain ⟨v, rfl, r1⟩ := r.one; cases r1; cases e; exact .inr ⟨_, rfl, q _ _ (Same.refl H) (.str _)⟩
def mIntT : List D → Sto → Option D
  | [.str a], _ => if a.length ≤ 640 then (PySem.intText? a).map D.int else none
  | _, _ => none
theorem cd_intT : CallD K (fun xs H Q => ∃ a n, xs = [.str a] ∧ PySem.intText? a = some n ∧ a.length ≤ 640 ∧ Q (.int n) H) mIntT := by
  intro β H st xs ds d Q r S e q
  match ds, r, e with
  | [.str a], r, e =>
    simp only [mIntT] at e
    split at e
    · rename_i hz
      cases hn : PySem.intText? a with
      | none => rw [hn] at e; cases e
      | some n =>
        rw [hn] at e
        cases e
        obtain ⟨v, rfl, r1⟩ := r.one
        cases r1
        exact ⟨a, n, rfl, hn, hz, q _ _ (Same.refl H) (.int _)⟩
    · cases e
end
/-! ### enumerate -/
def SqS (K : PySem.W.Frag) (H : Hp) (a : Addr) (xs : List V) : Prop := SqL K H a xs ∨ SqT K H a xs
/-- the tuple at a, each item in a new pair -/
def IteT (K : PySem.W.Frag) (a : Addr) : It :=
  ⟨fun i H => ∃ (xs : List V) (x : V), SqT K H a xs ∧ xs[i]? = some x, fun i H v H' => ∃ T x, v = .ref T ∧ H T = none ∧ H' = upd H T (.tup [.int (i : Nat), x]) ∧ ∀ xs, SqT K H a xs → xs[i]? = some x, fun i H => ∃ xs : List V, SqT K H a xs ∧ xs.length ≤ i⟩
theorem meets_enumerate_newT (l : Addr) (items : Array Value) :
    Meets (Builtin.«enumerate.__new__» ⟨[.type "enumerate", .ref l], []⟩) (fun _ R s => s.heap.IsTuple l items ∧
      R (.ok (.ret (.ref (s.heap.push { cls := .type "tuple_iterator", data := .fields #[.ref l, .int 0 0] }).objs.size)))
        { s with heap := (s.heap.push { cls := .type "tuple_iterator", data := .fields #[.ref l, .int 0 0] }).push { cls := .type "enumerate", data := .fields #[.none, .bool false, .ref s.heap.objs.size, rawInt 0, .none, .none] } }) :=
  .of_wp fun prog w A R s h => by
    obtain ⟨hp, g, d, tk, os⟩ := s; obtain ⟨hT, h⟩ := h
    have hsub := sub_enumerate
    have q1 : ∀ {A' : Around} {E : Value → Shared → Prop} {Q : Value → Shared → Prop}, Q (.ref hp.objs.size) ⟨hp.push { cls := .type "tuple_iterator", data := .fields #[.ref l, .int 0 0] }, g, d, tk, os⟩ → wpAny (model prog w) A' (pyIter (.ref l)) Q E ⟨hp, g, d, tk, os⟩ :=
      fun q => (begins_tuple l items).iter prog w _ _ ⟨hp, g, d, tk, os⟩ _ hT q
    wp_walk using q1
    refine wpAny_stack_any fun st => wpAny_pure ?_
    split
    · rename_i c _ _ _ _ _
      cases (c == Value.type "enumerate")
      · wp_walk using q1
        exact ⟨_, rfl, h⟩
      · wp_walk using q1
        exact ⟨_, rfl, h⟩
    · wp_walk using q1
      exact ⟨_, rfl, h⟩
theorem call_enumerate_tuple {prog : Program} {w : World} {A : Around} {E : Value → Shared → Prop} {s : Shared} {l : Addr} {items : Array Value} {Q : Value → Shared → Prop} (hT : s.heap.IsTuple l items)
    (h : ∀ h', IsEnum h' (s.heap.objs.size + 1) s.heap.objs.size 0 .none → h'.IsTupleIter s.heap.objs.size l 0 → h'.objs.size = s.heap.objs.size + 2 →
      (∀ b o, s.heap.get? b = some o → h'.get? b = some o) → Q (.ref (s.heap.objs.size + 1)) { s with heap := h' }) :
    wpAny (model prog w) A (call (.type "enumerate") [.ref l]) Q E s := by
  refine callType_new PySem.F.called_enumerate (by decide) (PySem.F.typeCall_enumerate_1 _) (PySem.F.newCall_enumerate_1 _) (fun obj => PySem.F.args_object_init_2 obj _) PySem.F.entry_enumerate_new
    (meets_enumerate_newT l items) ⟨hT, ?_⟩
  have hz : (s.heap.push { cls := .type "tuple_iterator", data := .fields #[.ref l, .int 0 0] }).objs.size = s.heap.objs.size + 1 := Heap.size_push ..
  show _ ∧ _
  rw [hz]
  have he : IsEnum ((s.heap.push { cls := .type "tuple_iterator", data := .fields #[.ref l, .int 0 0] }).push
      { cls := .type "enumerate", data := .fields #[.none, .bool false, .ref s.heap.objs.size, rawInt 0, .none, .none] }) (s.heap.objs.size + 1) s.heap.objs.size 0 .none := by
    have := Heap.get?_push_size (s.heap.push { cls := .type "tuple_iterator", data := .fields #[.ref l, .int 0 0] })
      (o := { cls := .type "enumerate", data := .fields #[.none, .bool false, .ref s.heap.objs.size, rawInt 0, .none, .none] }) rfl
    rw [hz] at this; exact this
  refine ⟨⟨_, he, rfl⟩, h _ he ⟨_, Heap.get?_push_of_some _ (Heap.get?_push_size _ rfl), rfl, rfl⟩ (by rw [Heap.size_push, hz]) fun b o x => Heap.get?_push_of_some _ (Heap.get?_push_of_some _ x)⟩
theorem turn_enumT {P : Program} {w : World} {K : PySem.W.Frag} {elts : List Expr} {kk : Nat} {tpos : Pos} (a e it : Addr) (hai : a ≠ it) (hae : a ≠ e) :
    Turn P w K (.Tuple elts kk tpos) (IteT K a) [e, it] e (fun i h => (∃ old, IsEnum h e it ((i : Nat) : Int) old) ∧ h.IsTupleIter it a i ∧ e ≠ it) where
  mem := by simp
  obj := fun i h st b hb => by
    obtain ⟨⟨old, he⟩, ⟨o, ho, hc, hd⟩, _⟩ := st
    have e' : b = e ∨ b = it := by simpa using hb
    rcases e' with z | z
    · rw [z]; exact ⟨_, he, fun v q => nomatch q⟩
    · rw [z]; exact ⟨o, ho, fun v q => by rw [hd] at q; cases q⟩
  keep := fun i h h' st k => let ⟨⟨old, he⟩, hi, hne⟩ := st; ⟨⟨old, k e (by simp) _ he⟩, hi.at fun o q => k it (by simp) o q, hne⟩
  item := by
    intro X hP hw hK hc i pins s σ H E I hf st hg
    subst hP hw hK
    obtain ⟨⟨old, he⟩, hit, hne⟩ := st
    obtain ⟨xs, x, hq, hx⟩ := hg
    obtain ⟨its, rv, p, hz⟩ := I.tuple hq
    obtain ⟨u, hu, ru⟩ := rv.get hx
    have hel : e < s.heap.objs.size := Heap.lt_size he
    have hil : it < s.heap.objs.size := by obtain ⟨_, q, _⟩ := hit; exact Heap.lt_size q
    have hlt : i < its.toArray.size := by
      have := (List.getElem?_eq_some_iff.mp hu).1
      simpa using this
    have nd : e ∉ [it, a] := by
      intro z
      rcases List.mem_cons.mp z with z | z
      · exact hne z
      · exact hae (List.mem_singleton.mp z).symm
    refine wpAny_pyNext_enum_itemC (Draws.tuple (prog := X.prog) (w := X.w) (A := X.A.in1) (show X.A.handled = none from I.ok.hd hc) it a hai its.toArray) he ⟨hit, p⟩ hlt hne nd fun x' h' tk hP ho hit' hT hsz hk => ?_
    have hxu : x' = u := by
      have h1 : its.toArray[i]? = some x' := hP
      rw [List.getElem?_toArray, hu] at h1
      exact (Option.some.inj h1).symm
    subst hxu
    refine ⟨_, rfl, wpAny_letOwnedTupleGo_enum (s := { s with heap := h', toks := tk + 1 }) ho fun h'' he' sb => ?_⟩
    have hT2 : h''.get? s.heap.objs.size = some { cls := .type "tuple", data := .seq #[.int i tk, x'] } := (sb.2 _ (Nat.ne_of_gt hel)).trans hT
    have new : ObjOk X.prog X.w (upd H s.heap.objs.size (.tup [.int (i : Nat), x])) h'' s.heap.objs.size (.tup [.int (i : Nat), x]) :=
      ⟨by show 2 ≤ sizeLine; decide, [.int i tk, x'], .cons ⟨_, rfl⟩ (.cons ru .nil), ⟨_, hT2, rfl, _, rfl⟩⟩
    have I1 : Inv X pins σ (upd H s.heap.objs.size (.tup [.int (i : Nat), x])) { s with heap := h'', toks := tk + 1 } :=
      I.turnedNew (ch := [e, it]) (fun b ob hb q => (sb.2 b (fun z => hb (by simp [z]))).trans (hk b ob (fun z => hb (by simp [z])) (fun z => hb (by simp [z])) q)) hf (Nat.le_refl _) new
    refine ⟨.ref s.heap.objs.size, _, I1, rfl, ⟨_, x, rfl, I.hok.fresh (Nat.le_refl _), rfl, fun ys hy => by rw [I.tuple_inj hy hq]; exact hx⟩, ⟨⟨x', ?_⟩, hit'.1.at fun o q => (sb.2 it (Ne.symm hne)).trans q, hne⟩, fun b hb => ?_⟩
    · have e1 : ((i + 1 : Nat) : Int) = (i : Int) + 1 := by omega
      rw [e1]; exact he'
    · have hb' : b < s.heap.objs.size := by
        have e' : b = e ∨ b = it := by simpa using hb
        rcases e' with z | z
        · rw [z]; exact hel
        · rw [z]; exact hil
      rw [upd_ne (Nat.ne_of_lt hb')]
      exact (hf b hb).1
  done := by
    intro X hP hw hK hc i pins s σ H E I hf st hg
    subst hP hw hK
    obtain ⟨⟨old, he⟩, hit, hne⟩ := st
    obtain ⟨xs, hq, hx⟩ := hg
    obtain ⟨its, rv, p, hz⟩ := I.tuple hq
    obtain ⟨f0, f1, f2, f3, f4, f5⟩ := hf it (by simp)
    have hl := rv.length
    have D' : Draws X.prog X.w X.A.in1 it [it, a] i (fun _ _ => False) (fun j h => j = i ∧ h.IsTupleIter it a i ∧ h.IsTuple a its.toArray) :=
      { live := fun _ _ st => let ⟨o, ho, _⟩ := st.2.1; ⟨o, ho⟩
        frame := fun _ _ _ st hk => ⟨st.1, st.2.1.at fun o e => hk it (by simp) o e, st.2.2.at fun o e => hk a (by simp) o e⟩
        item := fun j s Q E hj st _ => absurd st.1 (Nat.ne_of_lt hj)
        done := fun s Q E st hE => wpAny_nextOf_tuple_end (show X.A.handled = none from I.ok.hd hc) st.2.1 st.2.2 (by simp; omega) hE }
    exact wpAny_pyNext_enum_endD D' he ⟨rfl, hit, p⟩ fun h' eb => ⟨rfl, I.turned (t' := s.toks) (fun b o hb q => eb b o hb q) f0 f1 f3 f4 f5⟩
  self := fun A i s Q E st h => let ⟨⟨_, he⟩, _⟩ := st; wpAny_pyIter_enum he h
def iEnumT (K : PySem.W.Frag) (ta : TA) : TI := fun σ H R => ta σ H fun vs H1 => ∃ a xs, vs = [.ref a] ∧ ((SqL K H1 a xs ∧ R (Ite K a) H1) ∨ (SqT K H1 a xs ∧ R (IteT K a) H1))
theorem pi_enumT {X : Cx} {e : Expr} {ta : TA} {p pos tpos : Pos} {elts : List Expr} {kk : Nat} (hg : Gl X "enumerate") (hm : X.mg "enumerate" = none) (ha : PA X [e] ta) (hs : starEach [e] X.env = [(false, eval e X.env)] := by rfl) :
    PI X (.Tuple elts kk tpos) (.Call (.Name "enumerate" p) [e] [] pos) (iEnumT X.K ta) := by
  refine ⟨fun pins s σ H R I h => ?_⟩
  refine Call_ (ld_blt I hg hm boot_enumerate (PyProof.Rows.callWith_type1 (thn (ha.run pos pins s σ H _ I h) fun us s1 ⟨vs, H1, I1, r1, q1⟩ => ?_) hs rfl))
  obtain ⟨a, xs, ex, q⟩ := q1
  subst ex
  cases r1 with
  | cons r rr =>
    cases rr
    cases r
    have fr : ∀ b, b ∈ [s1.heap.objs.size + 1, s1.heap.objs.size] → FpOk X pins H1 b := fun b hb => by
      have e' : b = s1.heap.objs.size + 1 ∨ b = s1.heap.objs.size := by simpa using hb
      have hle : s1.heap.objs.size ≤ b := by
        rcases e' with z | z
        · rw [z]; exact Nat.le_add_right _ _
        · rw [z]; exact Nat.le_refl _
      exact I1.fpOk hle (I1.hok.fresh hle)
    rcases q with ⟨hq, q⟩ | ⟨hq, q⟩
    · obtain ⟨its, rv, p', hz⟩ := I1.list hq
      refine call_enumerate_list p'.isList fun h' he hit hsz hk => wpAny_pyIter_enum he ?_
      exact ⟨s1.heap.objs.size + 1, [s1.heap.objs.size + 1, s1.heap.objs.size], _, _, H1, rfl, I1.kept (t' := s1.toks) hk, turn_enum a (s1.heap.objs.size + 1) s1.heap.objs.size, ⟨⟨.none, he⟩, hit, Nat.succ_ne_self _⟩, fr, q⟩
    · obtain ⟨its, rv, p', hz⟩ := I1.tuple hq
      have hal : a < s1.heap.objs.size := by obtain ⟨_, q, _⟩ := id p'; exact Heap.lt_size q
      refine call_enumerate_tuple (show s1.heap.IsTuple a its.toArray from p') fun h' he hit hsz hk => wpAny_pyIter_enum he ?_
      exact ⟨s1.heap.objs.size + 1, [s1.heap.objs.size + 1, s1.heap.objs.size], _, _, H1, rfl, I1.kept (t' := s1.toks) hk, turn_enumT a (s1.heap.objs.size + 1) s1.heap.objs.size (Nat.ne_of_lt hal) (Nat.ne_of_lt (Nat.lt_succ_of_lt hal)), ⟨⟨.none, he⟩, hit, Nat.succ_ne_self _⟩, fr, q⟩
def enumD : Nat → List D → List D
  | _, [] => []
  | n, d :: ds => .tup [.int (n : Int), d] :: enumD (n + 1) ds
theorem enumD_len : ∀ (l : List D) (n : Nat), (enumD n l).length = l.length
  | [], _ => rfl
  | _ :: ds, n => by simp only [enumD, List.length_cons, enumD_len ds (n + 1)]
theorem enumD_get : ∀ {l : List D} {n i : Nat} {d : D}, (enumD n l)[i]? = some d → ∃ x, d = .tup [.int ((n + i : Nat) : Int), x] ∧ l[i]? = some x
  | [], n, i, d, h => by simp [enumD] at h
  | x :: ds, n, 0, d, h => ⟨x, (Option.some.inj (by simpa [enumD] using h)).symm, rfl⟩
  | x :: ds, n, i + 1, d, h => by
    obtain ⟨y, e, q⟩ := enumD_get (l := ds) (n := n + 1) (i := i) (d := d) (by simpa [enumD] using h)
    exact ⟨y, by rw [e, show n + 1 + i = n + (i + 1) by omega], by simpa using q⟩
section
variable {K : Zx} {β : Bx} {H : Hp}
theorem itd_el {a : Addr} {xs : List V} {l : List D} (h : ∀ β' H', Mv β H β' H' → SqL K H' a xs) (r : Reps K β H xs l) : ItD K β H (Ite K a) (enumD 0 l) where
  go := fun β' H' i e hi => by
    rw [enumD_len] at hi
    exact ⟨xs, xs[i]'(by rw [r.length]; exact hi), h β' H' e, List.getElem?_eq_getElem _⟩
  yld := fun β' H' i x H'' d e hd hy => by
    obtain ⟨T, x1, rfl, nT, rfl, f1⟩ := hy
    obtain ⟨dx, rfl, g1⟩ := enumD_get hd
    obtain ⟨v, hv, rv⟩ := r.get g1
    have e1 := f1 xs (h β' H' e)
    rw [hv] at e1
    have e1 := Option.some.inj e1
    subst e1
    have e3 := e.trans (Ext.new (β := β') (o := .tup [.int (i : Int), v]) nT).mv
    rw [Nat.zero_add]
    exact ⟨same_new nT, .tup (.inl (.inl upd_same)) (.cons (.int _) (.cons (Rep.move e3 _ _ rv) .nil)) (le1000 (by simp))⟩
  stop := fun β' H' i e hi => by
    rw [enumD_len] at hi
    exact ⟨xs, h β' H' e, by rw [r.length]; exact hi⟩
theorem itd_et {a : Addr} {xs : List V} {l : List D} (h : SqT K H a xs) (r : Reps K β H xs l) : ItD K β H (IteT K a) (enumD 0 l) where
  go := fun β' H' i e hi => by
    rw [enumD_len] at hi
    exact ⟨xs, xs[i]'(by rw [r.length]; exact hi), e.sqT h, List.getElem?_eq_getElem _⟩
  yld := fun β' H' i x H'' d e hd hy => by
    obtain ⟨T, x1, rfl, nT, rfl, f1⟩ := hy
    obtain ⟨dx, rfl, g1⟩ := enumD_get hd
    obtain ⟨v, hv, rv⟩ := r.get g1
    have e1 := f1 xs (e.sqT h)
    rw [hv] at e1
    have e1 := Option.some.inj e1
    subst e1
    have e3 := e.trans (Ext.new (β := β') (o := .tup [.int (i : Int), v]) nT).mv
    rw [Nat.zero_add]
    exact ⟨same_new nT, .tup (.inl (.inl upd_same)) (.cons (.int _) (.cons (Rep.move e3 _ _ rv) .nil)) (le1000 (by simp))⟩
  stop := fun β' H' i e hi => by
    rw [enumD_len] at hi
    exact ⟨xs, e.sqT h, by rw [r.length]; exact hi⟩
end
def mEnum : List D → Option (List D)
  | [.tup l] => some (enumD 0 l)
  | [.lst l] => some (enumD 0 l)
  | [.ro l] => some (enumD 0 l)
  | _ => none
def gEnum (f : G (List D)) : G (List D) := fun ρ st => (f ρ st).bind fun d s1 => oout (mEnum d) s1
section
variable {X : Cx} {W : WX}
theorem di_enum {e : Expr} {fs : G (List D)} {elts : List Expr} {kk : Nat} {tpos p pos : Pos} (hg : Gl X "enumerate") (hm : X.mg "enumerate" = none) (ha : DA X W [e] fs) (hs : starEach [e] X.env = [(false, eval e X.env)] := by rfl) :
    DI X W (.Tuple elts kk tpos) (.Call (.Name "enumerate" p) [e] [] pos) (gEnum fs) := by
  refine PImono (pi_enumT hg hm ha hs) fun σ H R h => ?_
  obtain ⟨β, ρ, st, hρ, hs, h⟩ := h
  refine tDA_intro hρ hs (Out.sat_bind h) (fun d s1 h1 v β1 H1 e1 S1 r1 => ?_) fun _ _ q => q
  obtain ⟨l, q, p⟩ := oout_sat h1
  unfold mEnum at q
  split at q
  · rename_i l
    cases q
    obtain ⟨v, rfl, r⟩ := r1.one
    cases r with | tup g1 g2 g3 => exact ⟨_, _, rfl, .inr ⟨g1, p _ β1 H1 e1 S1 (itd_et g1 g2) (by rw [enumD_len]; exact g3)⟩⟩
  · rename_i l
    cases q
    obtain ⟨v, rfl, r⟩ := r1.one
    cases r with | lst g1 gn g2 g3 => exact ⟨_, _, rfl, .inl ⟨SqL.of g1, p _ β1 H1 e1 S1 (itd_el (fun β' H' e => SqL.of (e.lst _ _ g1 gn).1) g2) (by rw [enumD_len]; exact g3)⟩⟩
  · rename_i l
    cases q
    obtain ⟨v, rfl, r⟩ := r1.one
    cases r with | ro g1 g2 g3 => exact ⟨_, _, rfl, .inl ⟨g1.sqL, p _ β1 H1 e1 S1 (itd_el (fun β' H' e => (e.sqR g1).sqL) g2) (by rw [enumD_len]; exact g3)⟩⟩
  · cases q
end
end DL
namespace DL
open PySem PySem.Spec L2
open PyProof.Rows hiding St
def mIAdd : D → D → Sto → Option D
  | .int i, .int j, _ => some (.int (i + j))
  | _, _, _ => none
def mISub : D → D → Sto → Option D
  | .int i, .int j, _ => some (.int (i - j))
  | _, _, _ => none
theorem od_iadd {K : Zx} : OpD K (ipI fun i j => i + j) mIAdd := by
  intro β H st x y dx dy d Q rx ry S e q
  match dx, dy, rx, ry, e with
  | .int i, .int j, rx, ry, e => cases e; cases rx; cases ry; exact ⟨i, j, rfl, rfl, q _ _ (Same.refl H) (.int _)⟩
theorem od_isub {K : Zx} : OpD K (ipI fun i j => i - j) mISub := by
  intro β H st x y dx dy d Q rx ry S e q
  match dx, dy, rx, ry, e with
  | .int i, .int j, rx, ry, e => cases e; cases rx; cases ry; exact ⟨i, j, rfl, rfl, q _ _ (Same.refl H) (.int _)⟩
section
variable {X : Cx} {W : WX} {pos : Pos} {e : Expr} {f : G D}
theorem ds_aug {i : Nat} {x : Str} {pos' : Pos} {op : Operator} {rd : R2} {m : D → D → Sto → Option D} (hN : X.N.Nodup) (hi : X.N[i]? = some x) (hx : Loc X.env.scope x) (he : DE X W e f) (ho : PIp X op rd) (hm : OpD (zOf X) rd m)
    (hf : X.fn x = true ∨ X.env.scope.names.lookup x = some .local := by first | exact .inl rfl | exact .inr rfl | assumption) : DS X W (.AugAssign (.Name x pos') op e pos) (sAug m i f) := by
  refine PSmono (ps_aug hN hi hx he ho hf) fun D' σ H h => ?_
  obtain ⟨β, ρ, st, hρ, hs, h⟩ := h
  have h := Out.sat_bind h
  unfold gVar at h
  split at h
  · rename_i d0 hd0
    obtain ⟨v0, hv0, r0⟩ := hρ.2 i d0 hd0
    refine ⟨v0, hv0, ?_⟩
    refine tD_intro hρ hs (Out.sat_bind h) (fun d s1 h1 v β1 H1 e1 S1 r1 => ?_) fun _ _ q => xs_x q
    obtain ⟨d3, q, p⟩ := oout_sat (Out.sat_bind h1)
    exact hm β1 H1 s1 v0 v d0 d d3 _ (Rep.ext e1 _ _ r0) r1 S1 q fun w' H' s' r' => p _ β1 H' (e1.trans (Ext.same s')) (S1.same s') ((hρ.ext (e1.trans (Ext.same s'))).set i r')
  · exact h.elim
end
end DL
namespace DL
open PySem PySem.Spec L2
open PyProof.Rows hiding St
/-! ### a, b, c = x, y, z -/
def sPar3 (i j l : Nat) (f : G (List D)) : G Fl := fun ρ st => (f ρ st).bind fun ds s1 => match ds with
  | [a, b, c] => .ok (.nx (((ρ.set i (some a)).set j (some b)).set l (some c))) s1
  | _ => .bad
section
variable {X : Cx} {W : WX} {pos : Pos} {a b c : Expr} {fs : G (List D)}
theorem ds_par3 {i j l : Nat} {x y z : Str} {px py pz pt : Pos} {kt k2 pt2} (hc : X.calm = true) (hN : X.N.Nodup) (hi : X.N[i]? = some x) (hj : X.N[j]? = some y) (hl : X.N[l]? = some z) (hij : i ≠ j) (hil : i ≠ l) (hjl : j ≠ l)
    (hx : X.env.scope.names.lookup x = some .local) (hy : X.env.scope.names.lookup y = some .local) (hz : X.env.scope.names.lookup z = some .local) (ha : DA X W [a, b, c] fs)
    (hw : swappedStores [.Tuple [.Name x px, .Name y py, .Name z pz] kt pt] (.Tuple [a, b, c] k2 pt2) X.env = pure (some [x, y, z]))
    (hs : swapsWithSole [.Tuple [.Name x px, .Name y py, .Name z pz] kt pt] (.Tuple [a, b, c] k2 pt2) pos.line X.env = pure false := by rfl) :
    DS X W (.Assign [.Tuple [.Name x px, .Name y py, .Name z pz] kt pt] (.Tuple [a, b, c] k2 pt2) pos) (sPar3 i j l fs) := by
  refine PSmono (ps_par3 hc hN hi hj hl hij hil hjl hx hy hz ha hw hs) fun D' σ H h => ?_
  obtain ⟨β, ρ, st, hρ, hs, h⟩ := h
  refine tDA_intro hρ hs (Out.sat_bind h) (fun ds s1 h1 vs β1 H1 e1 S1 r1 => ?_) fun _ _ q => xs_x q
  split at h1
  · rename_i d1 d2 d3
    cases r1 with
    | cons q1 r1 =>
      obtain ⟨v, w, rfl, q2, q3⟩ := r1.two
      exact ⟨_, v, w, rfl, h1 _ β1 H1 e1 S1 ((((hρ.ext e1).set i q1).set j q2).set l q3)⟩
  · exact h1.elim
end
end DL
namespace DL
open PySem PySem.Spec L2
open PyProof.Rows hiding St
/-! ### rows for simp -/
section
variable {ρ : Env} {st : Sto} {f g : G D} {fs : G (List D)} {m : D → List D → Sto → Option D} {x : Str} {i j : Int} {l : List D} {n k : Nat} {d e : D}
@[simp] theorem isStr_str : isStr (.str x) = true := rfl
@[simp] def kM0 (m : D → List D → Sto → Option D) (d : D) (s1 : Sto) : Out D := if isStr d = true then oout (m d [] s1) s1 else .bad
@[simp] theorem e_M0 : gM0 m f ρ st = (f ρ st).bind (kM0 m) := rfl
@[simp] def kM12 (m : D → List D → Sto → Option D) (d e : D) (s2 : Sto) : Out D := oout (m d [e] s2) s2
@[simp] def kM1 (m : D → List D → Sto → Option D) (g : G D) (ρ : Env) (d : D) (s1 : Sto) : Out D := if isStr d = true then (g ρ s1).bind (kM12 m d) else .bad
@[simp] theorem e_M1 : gM1 m f g ρ st = (f ρ st).bind (kM1 m g ρ) := rfl
@[simp] def kEnum (d : List D) (s1 : Sto) : Out (List D) := oout (mEnum d) s1
@[simp] theorem e_Enum : gEnum fs ρ st = (fs ρ st).bind kEnum := rfl
@[simp] theorem o_enumt : mEnum [.tup l] = some (enumD 0 l) := rfl
@[simp] theorem o_enuml : mEnum [.lst l] = some (enumD 0 l) := rfl
@[simp] def kAug2 (n : Nat) (ρ : Env) (z : D) (s1 : Sto) : Out Fl := .ok (.nx (ρ.set n (some z))) s1
@[simp] def kAug1 (m : D → D → Sto → Option D) (n : Nat) (ρ : Env) (x d : D) (s1 : Sto) : Out Fl := (oout (m x d s1) s1).bind (kAug2 n ρ)
@[simp] def kAug (m : D → D → Sto → Option D) (n : Nat) (f : G D) (ρ : Env) (x : D) (s0 : Sto) : Out Fl := (f ρ s0).bind (kAug1 m n ρ x)
@[simp] theorem e_Aug {m : D → D → Sto → Option D} : sAug m n f ρ st = (gVar n ρ st).bind (kAug m n f ρ) := rfl
@[simp] theorem o_iadd : mIAdd (.int i) (.int j) st = some (.int (i + j)) := rfl
@[simp] theorem o_isub : mISub (.int i) (.int j) st = some (.int (i - j)) := rfl
def par3Out (i j l : Nat) (ρ : Env) (ds : List D) (s1 : Sto) : Out Fl := match ds with
  | [a, b, c] => .ok (.nx (((ρ.set i (some a)).set j (some b)).set l (some c))) s1
  | _ => .bad
@[simp] theorem e_par3Out {c : D} {l : Nat} : par3Out n k l ρ [d, e, c] st = .ok (.nx (((ρ.set n (some d)).set k (some e)).set l (some c))) st := rfl
@[simp] theorem e_sPar3 {l : Nat} : sPar3 n k l fs ρ st = (fs ρ st).bind (par3Out n k l ρ) := rfl
end
end DL
namespace DL
open PySem PySem.Spec L2
open PyProof.Rows hiding St
section
variable {ρ : Env} {st : Sto} {fo fv : G D} {l : List D} {n : Nat} {o v : D}
def kApp2 (o v : D) (s2 : Sto) : Out D := match mLstAt o s2 with
  | some (n, l) => if l.length < LIM then .ok .non (s2.set n (.lst (l ++ [v]))) else .bad
  | none => .bad
def kApp (fv : G D) (ρ : Env) (o : D) (s1 : Sto) : Out D := match mLstAt o s1 with
  | none => .bad
  | some _ => (fv ρ s1).bind (kApp2 o)
@[simp] theorem e_App : gAppend fo fv ρ st = (fo ρ st).bind (kApp fv ρ) := rfl
theorem app_1 (h : st[n]? = some (.lst l)) : kApp fv ρ (.ref n) st = (fv ρ st).bind (kApp2 (.ref n)) := by
  simp only [kApp, mLstAt, h]
theorem app_2 (h : st[n]? = some (.lst l)) (hl : l.length < LIM) : kApp2 (.ref n) v st = .ok .non (st.set n (.lst (l ++ [v]))) := by
  simp only [kApp2, mLstAt, h, if_pos hl]
end
end DL

set_option Elab.async false
set_option linter.all false
set_option maxRecDepth 100000
set_option maxHeartbeats 2000000
/-! # Instances of the text's classes: made, their fields read and stored -/
namespace DL
open PySem PySem.Spec L2
open PyProof.Rows hiding St
def putD (f : Str) (v : D) : List (Str × D) → List (Str × D)
  | [] => [(f, v)]
  | (g, x) :: r => if g = f then (g, v) :: r else (g, x) :: putD f v r
theorem fs_lookup {K : Zx} {β : Bx} {H : Hp} {f : Str} {d : D} : ∀ {vs : List (Str × V)} {fs : List (Str × D)}, vs.map (·.1) = fs.map (·.1) → Reps K β H (vs.map (·.2)) (fs.map (·.2)) → fs.lookup f = some d → ∃ v, vs.lookup f = some v ∧ Rep K β H v d
  | [], [], _, _, h => by cases h
  | [], _ :: _, e, _, _ => by cases e
  | _ :: _, [], e, _, _ => by cases e
  | (g, x) :: vs, (g', y) :: fs, e, r, h => by
    simp only [List.map_cons, List.cons.injEq] at e
    obtain ⟨e1, e2⟩ := e
    have e1 : g = g' := e1
    subst e1
    cases r with
    | cons r1 r2 =>
      rw [List.lookup_cons] at h ⊢
      cases q : f == g with
      | true =>
        rw [q] at h
        cases h
        exact ⟨x, rfl, r1⟩
      | false =>
        rw [q] at h
        exact fs_lookup e2 r2 h
theorem fs_put {K : Zx} {β : Bx} {H : Hp} {f : Str} {v : V} {d : D} (rv : Rep K β H v d) : ∀ {vs : List (Str × V)} {fs : List (Str × D)}, vs.map (·.1) = fs.map (·.1) → Reps K β H (vs.map (·.2)) (fs.map (·.2)) →
    (putF f v vs).map (·.1) = (putD f d fs).map (·.1) ∧ Reps K β H ((putF f v vs).map (·.2)) ((putD f d fs).map (·.2))
  | [], [], _, _ => ⟨rfl, .cons rv .nil⟩
  | [], _ :: _, e, _ => by cases e
  | _ :: _, [], e, _ => by cases e
  | (g, x) :: vs, (g', y) :: fs, e, r => by
    simp only [List.map_cons, List.cons.injEq] at e
    obtain ⟨e1, e2⟩ := e
    have e1 : g = g' := e1
    subst e1
    cases r with
    | cons r1 r2 =>
      unfold putF putD
      by_cases q : g = f
      · rw [if_pos q, if_pos q]
        simp only [List.map_cons]
        exact ⟨by rw [e2], .cons rv r2⟩
      · rw [if_neg q, if_neg q]
        obtain ⟨h1, h2⟩ := fs_put (f := f) rv e2 r2
        simp only [List.map_cons]
        exact ⟨by rw [h1], .cons r1 h2⟩
/-- what is known of a class of the text -/
structure InsC (K : PySem.W.Frag) (cn : Str) (C : Addr) : Prop where
  g : PySem.W.nsIn K mainGlobals cn = some (some (.ref C))
  cls : Cls K C
def gFld (cn f : Str) (fe : G D) : G D := fun ρ st => (fe ρ st).bind fun o s1 => match o with
  | .ref n => (match s1[n]? with
    | some (.ins c fs) => if c = cn then oout (fs.lookup f) s1 else .bad
    | _ => .bad)
  | _ => .bad
def sFldSet (cn f : Str) (fo fv : G D) : G Fl := fun ρ st => (fv ρ st).bind fun v s1 => (fo ρ s1).bind fun o s2 => match o with
  | .ref n => (match s2[n]? with
    | some (.ins c fs) => if c = cn ∧ fs.length < 1000 then .ok (.nx ρ) (s2.set n (.ins c (putD f v fs))) else .bad
    | _ => .bad)
  | _ => .bad
/-- C(..): its __init__ is m -/
def gMake (cn : Str) (m : List D → Sto → Out D) (fs : G (List D)) : G D := fun ρ st => (fs ρ st).bind fun ds s1 => match m (.ref s1.length :: ds) (s1 ++ [SO.ins cn []]) with
  | .ok .non s2 => .ok (.ref s1.length) s2
  | _ => .bad
section
variable {X : Cx} {W : WX} {pos p pos' : Pos} {x cn f : Str} {C : Addr} {e o value : Expr} {es : List Expr} {fe fo fv : G D} {fs : G (List D)}
theorem de_fld (I : InsC X.K cn C) (n : NoAttr X.K C f) (he : DE X W e fe) (hb : attributeBase e f X.env (eval e X.env) = eval e X.env := by rfl) : DE X W (.Attribute e f pos) (gFld cn f fe) := by
  refine PEmono (pe_fld he hb) fun σ H Q h => ?_
  obtain ⟨β, ρ, st, hρ, hs, h⟩ := h
  refine tD_intro hρ hs (Out.sat_bind h) (fun d s1 h1 v β1 H1 e1 S1 r1 => ?_) fun _ _ q => q
  split at h1
  · rename_i m
    split at h1
    · rename_i c fs hm
      split at h1
      · rename_i hc
        subst hc
        obtain ⟨d, hd, p⟩ := oout_sat h1
        cases r1 with
        | ref hl =>
          obtain ⟨u, hu, rel⟩ := S1.get hl
          rw [hm] at hu
          cases hu
          obtain ⟨C', dx, vs, g, hH, ek, rr⟩ := rel
          have hCC : C = C' := by
            have z := I.g.symm.trans g
            cases z
            rfl
          subst hCC
          obtain ⟨v, hv, rv⟩ := fs_lookup ek rr hd
          exact ⟨_, _, dx, vs, v, rfl, hH, I.cls, n, hv, p v β1 H1 e1 S1 rv⟩
      · exact h1.elim
    · exact h1.elim
  · exact h1.elim
theorem ds_fld (I : InsC X.K cn C) (n : NoAttr X.K C f) (ha : DE X W o fo) (hv : DE X W value fv) (hs : swapsWith value (some (.Attribute o f pos')) pos.line X.env = pure false := by rfl) : DS X W (.Assign [.Attribute o f pos'] value pos) (sFldSet cn f fo fv) := by
  refine PSmono (ps_fld ha hv hs) fun D' σ H h => ?_
  obtain ⟨β, ρ, st, hρ, hs, h⟩ := h
  refine tD_intro hρ hs (Out.sat_bind h) (fun d s1 h1 v β1 H1 e1 S1 r1 => ?_) fun _ _ q => xs_x q
  refine tD_intro (hρ.ext e1) S1 (Out.sat_bind h1) (fun d2 s2 h2 v2 β2 H2 e2 S2 r2 => ?_) fun _ _ q => (xs_x q).ext e1
  split at h2
  · rename_i m
    split at h2
    · rename_i c fs hm
      split at h2
      · rename_i hc
        obtain ⟨hc, hz⟩ := hc
        subst hc
        cases r2 with
        | ref hl =>
          obtain ⟨u, hu, rel⟩ := S2.get hl
          rw [hm] at hu
          cases hu
          obtain ⟨C', dx, vs, g, hH, ek, rr⟩ := rel
          have hCC : C = C' := by
            have z := I.g.symm.trans g
            cases z
            rfl
          subst hCC
          have hlen : vs.length = fs.length := by
            have := congrArg List.length ek
            simpa using this
          refine ⟨_, _, dx, vs, rfl, hH, I.cls, n, by omega, ?_⟩
          have ew : Ext β2 H2 β2 (upd H2 _ (.ins C dx (putF f v vs))) := Ext.write hl hH (fun _ z => by cases z) (fun _ _ z => by cases z) (fun _ _ z => by unfold LamX.CodeO at z; cases z) (fun _ z => by cases z)
          obtain ⟨p1, p2⟩ := fs_put (f := f) (Rep.ext (e2.trans ew) _ _ r1) ek (Reps.ext ew _ _ rr)
          exact h2 σ β2 _ ((e1.trans e2).trans ew) (S2.write hl ew ⟨C, dx, _, g, upd_same, p1, p2⟩) (hρ.ext ((e1.trans e2).trans ew))
      · exact h2.elim
    · exact h2.elim
  · exact h2.elim
theorem passF {X : Cx} : Passes (L2.CX X.prog X.w) X (fun _ _ _ => False) := fun pins σ H s e s' I c => by
  obtain ⟨_, _, _, _, _, _, _, _, _, _, _, _, z⟩ := c
  exact z.elim
theorem de_make {k : Nat} {fI : Addr} {fd : FuncData} {ps : List Str} {m : List D → Sto → Out D} (M : Mk X.K C fI) (F : FnD X.prog X.w X.K X.mg X.base k fI fd ps m) (hr : Room (k + 1) X.A) (hg : Gl X x) (hm : X.mg x = some (.ref C)) (hb : Binds X.K fd ps []) (I : PySem.W.nsIn X.K mainGlobals cn = some (some (.ref C)))
    (hl : (e :: es).length + 1 = ps.length) (ha : DA X W (e :: es) fs) (hdb : (x == ("__debug__" : Str)) = false := by decide) (he : starEach (e :: es) X.env = (false, eval e X.env) :: starEach es X.env := by rfl) (hpl : (backTo pos (starEach es X.env)).any (·.1) = false := by rfl) (hfl : ∀ ρ st ds s1, fs ρ st = .ok ds s1 → ds.length = (e :: es).length) :
    DE X W (.Call (.Name x p) (e :: es) [] pos) (gMake cn m fs) := by
  refine PEmono (pe_make (E := fun _ _ _ => False) (dvs := []) M F hr hg hm hb .nil passF ha hdb he hpl) fun σ H Q h => ?_
  obtain ⟨β, ρ, st, hρ, hs, h⟩ := h
  have h := Out.sat_bind h
  cases q : fs ρ st with
  | bad => rw [q] at h; exact h.elim
  | exn y s => exact ⟨β, ρ, st, hρ, hs, by rw [q] at h ⊢; exact h⟩
  | ok ds s1 =>
    refine ⟨β, ρ, st, hρ, hs, ?_⟩
    rw [q] at h ⊢
    have hlen := hfl _ _ _ _ q
    refine fun vs β1 H1 e1 S1 r1 a dx na nd hda => ?_
    have h : (match m (.ref s1.length :: ds) (s1 ++ [SO.ins cn []]) with
      | .ok .non s2 => Out.ok (D.ref s1.length) s2
      | _ => .bad).sat _ _ := h
    have ed : Ext β1 H1 β1 (upd H1 dx (.own a)) := Ext.new nd
    have na' : upd H1 dx (.own a) a = none := by rw [upd_ne (Ne.symm hda)]; exact na
    have eg : Ext β1 (upd H1 dx (.own a)) (β1.add a) (upd (upd H1 dx (.own a)) a (.ins C dx [])) := Ext.grow na'
    have S3 : StoOk (zOf X) (β1.add a) (upd (upd H1 dx (.own a)) a (.ins C dx [])) (s1 ++ [SO.ins cn []]) := (S1.fresh nd).grow na' ⟨C, dx, [], I, upd_same, rfl, .nil⟩
    have eT := ed.trans eg
    have hmem : (β1.add a).lo[s1.length]? = some a := by
      show (β1.lo ++ [a])[s1.length]? = some a
      rw [← S1.len, List.getElem?_append_right (Nat.le_refl _)]
      simp
    rw [List.append_nil]
    refine ⟨β1.add a, .ref s1.length :: ds, s1 ++ [SO.ins cn []], .cons (.ref hmem) (Reps.ext eT _ _ r1), S3, by rw [List.length_cons, r1.length, hlen]; exact hl, ?_⟩
    cases z : m (.ref s1.length :: ds) (s1 ++ [SO.ins cn []]) with
    | bad => rw [z] at h; exact h.elim
    | exn y s => rw [z] at h; exact h.elim
    | ok d s2 =>
      rw [z] at h
      cases d <;> first | exact h.elim | skip
      exact fun v β2 H2 e2 S2 r2 => by
        cases r2
        exact ⟨rfl, h (.ref a) β2 H2 ((e1.trans eT).trans e2) S2 (.ref (e2.mem hmem))⟩
end
/-! ### rows for simp -/
section
variable {ρ : Env} {st : Sto} {cn f : Str} {fe fo fv : G D} {fs : G (List D)} {n : Nat} {l : List (Str × D)} {v : D} {m : List D → Sto → Out D} {ds : List D}
def fldOut (cn f : Str) (o : D) (s1 : Sto) : Out D := match o with
  | .ref n => (match s1[n]? with
    | some (.ins c fs) => if c = cn then oout (fs.lookup f) s1 else .bad
    | _ => .bad)
  | _ => .bad
@[simp] theorem e_Fld : gFld cn f fe ρ st = (fe ρ st).bind (fldOut cn f) := rfl
theorem fld_at (h : st[n]? = some (.ins cn l)) : fldOut cn f (.ref n) st = oout (l.lookup f) st := by
  simp only [fldOut, h, if_true]
def fldSetOut (cn f : Str) (ρ : Env) (v o : D) (s2 : Sto) : Out Fl := match o with
  | .ref n => (match s2[n]? with
    | some (.ins c fs) => if c = cn ∧ fs.length < 1000 then .ok (.nx ρ) (s2.set n (.ins c (putD f v fs))) else .bad
    | _ => .bad)
  | _ => .bad
@[simp] def kFldSet (cn f : Str) (fo : G D) (ρ : Env) (v : D) (s1 : Sto) : Out Fl := (fo ρ s1).bind (fldSetOut cn f ρ v)
@[simp] theorem e_FldSet : sFldSet cn f fo fv ρ st = (fv ρ st).bind (kFldSet cn f fo ρ) := rfl
theorem fldset_at (h : st[n]? = some (.ins cn l)) (hl : l.length < 1000) : fldSetOut cn f ρ v (.ref n) st = .ok (.nx ρ) (st.set n (.ins cn (putD f v l))) := by
  simp only [fldSetOut, h]
  rw [if_pos ⟨trivial, hl⟩]
def makeOut (n : Nat) (o : Out D) : Out D := match o with
  | .ok .non s2 => .ok (.ref n) s2
  | _ => .bad
@[simp] theorem e_makeOut : makeOut n (.ok .non st) = .ok (.ref n) st := rfl
@[simp] def kMake (cn : Str) (m : List D → Sto → Out D) (ds : List D) (s1 : Sto) : Out D := makeOut s1.length (m (.ref s1.length :: ds) (s1 ++ [SO.ins cn []]))
@[simp] theorem e_Make : gMake cn m fs ρ st = (fs ρ st).bind (kMake cn m) := rfl
end
end DL

set_option Elab.async false
set_option linter.all false
set_option maxRecDepth 100000
set_option maxHeartbeats 2000000
/-! # Lambdas with parameters, handed on and called -/
namespace DL
open PySem PySem.Spec L2
open PyProof.Rows hiding St
open LamX hiding takes0
/-- the names of a lambda: captured ones, its parameters ps, globals -/
structure LamP (ps : List Str) (scope : Scope) : Prop where
  kind : scope.kind = .function
  co : scope.isCoroutine = false
  gen : scope.isGenerator = false
  cell : ∀ y ∈ scope.names, y.2 ≠ .cell
  par : ∀ p ∈ ps, scope.names.lookup p = some .local
  own : ∀ y ∈ scope.names, y.2 = .local → y.1 ∈ ps
  cap : ∀ x ∈ capN scope, scope.names.lookup x = some .free
  nd : (capN scope ++ ps).Nodup
def lamPB (ps : List Str) (scope : Scope) : Bool :=
  decide (scope.kind = .function) && !scope.isCoroutine && !scope.isGenerator && scope.names.all (fun y => !decide (y.2 = .cell) && (!decide (y.2 = .local) || decide (y.1 ∈ ps))) &&
    ps.all (fun p => decide (scope.names.lookup p = some .local)) && (capN scope).all (fun x => decide (scope.names.lookup x = some .free)) && decide (capN scope ++ ps).Nodup
theorem lamP_by {ps : List Str} {scope : Scope} (h : lamPB ps scope = true) : LamP ps scope := by
  unfold lamPB at h
  simp only [Bool.and_eq_true, Bool.or_eq_true, Bool.not_eq_true', decide_eq_true_eq, decide_eq_false_iff_not, List.all_eq_true] at h
  obtain ⟨⟨⟨⟨⟨⟨h1, h2⟩, h3⟩, h4⟩, h5⟩, h6⟩, h7⟩ := h
  exact ⟨h1, h2, h3, fun y hy => (h4 y hy).1, h5, fun y hy e => (h4 y hy).2.elim (fun z => absurd e z) id, h6, h7⟩
/-- the context of a lambda's body -/
def cloCx (X : Cx) (A : Around) (outer : List PySem.Env) (s : Shared) (H : Hp) (E : XK) (q : Str) (scope : Scope) (cl : List (Str × Addr)) (N : List Str) (f c' : Addr) : Cx where
  prog := X.prog
  w := X.w
  K := X.K
  mg := X.mg
  base := X.base
  A := A.deeper (PySem.W.envX q scope s.heap.objs.size f (.ref c') cl)
  N := N
  s_0 := s
  H_0 := H
  env := PySem.W.envX q scope s.heap.objs.size f (.ref c') cl
  outer := outer
  stack := PySem.W.envX q scope s.heap.objs.size f (.ref c') cl :: outer
  ex := []
  fn := fun _ => false
  calm := true
  pn := []
  xe := fun e s' => wpAny (model X.prog X.w) (A.deeper (PySem.W.envX q scope s.heap.objs.size f (.ref c') cl)) (leaving (PySem.W.envX q scope s.heap.objs.size f (.ref c') cl) e) (fun _ s'' => L2.CX X.prog X.w outer H s E e s'') (fun e' s'' => L2.CX X.prog X.w outer H s E e' s'') s'
section
variable {X : Cx} {pins : List (Addr × Obj)} {σ : L2.St} {H : Hp} {s : Shared}
theorem zip_rev_lookup {ps : List Str} {us : List Value} (nd : ps.Nodup) (hl : us.length = ps.length) {i : Nat} {p : Str} {u : Value} (hp : ps[i]? = some p) (hu : us[i]? = some u) : (ps.zip us).reverse.lookup p = some u := by
  have key : ∀ (l : List (Str × Value)), (l.map (·.1)).Nodup → (p, u) ∈ l → l.lookup p = some u := by
    intro l
    induction l with
    | nil => intro _ h; cases h
    | cons a l ih =>
      intro hn h
      obtain ⟨x, y⟩ := a
      simp only [List.map_cons, List.nodup_cons] at hn
      rw [List.lookup_cons]
      rcases List.mem_cons.mp h with e | h2
      · cases e
        simp
      · have hne : (p == x) = false := by
          rw [beq_eq_false_iff_ne]
          intro z
          subst z
          exact hn.1 (List.mem_map.mpr ⟨(p, u), h2, rfl⟩)
        rw [hne]
        exact ih hn.2 h2
  refine key _ ?_ ?_
  · rw [List.map_reverse, List.map_fst_zip (by omega)]
    exact (List.reverse_perm _).nodup_iff.mpr nd
  · rw [List.mem_reverse]
    refine List.mem_iff_getElem?.mpr ⟨i, ?_⟩
    rw [List.getElem?_zip_eq_some]
    exact ⟨hp, hu⟩
theorem clo_start {A : Around} {outer : List PySem.Env} {E : XK} {q : Str} {scope : Scope} {ps : List Str} {cl : List (Str × Addr)} {f c' : Addr} {h₁ : Heap} {tk : Nat} {vs as : List V} {us : List Value} (L : LamP ps scope) (e0 : Env0 X.prog X.w X.K X.mg X.base A outer s H) (hd : A.handled = none)
    (C : CapOk X.base scope cl vs) (r : Vals as us) (hl : us.length = ps.length)
    (hns : h₁.Ns s.heap.objs.size fun y => (ps.zip us).reverse.lookup y) (kp : ∀ b o, s.heap.get? b = some o → h₁.get? b = some o) :
    L2.Inv (cloCx X A outer s H E q scope cl (capN scope ++ ps) f c') [] ((vs ++ as).map some) H { s with heap := h₁, toks := tk } := by
  obtain ⟨C1, C2, C3, C4⟩ := C
  have hal : as.length = ps.length := by rw [r.length, hl]
  have cellOf : ∀ {x c}, cl.lookup x = some c → ∃ u, X.base.IsCell c (some u) := fun {x c} h => by
    have hx := C3 x c h
    obtain ⟨i, hi⟩ := List.mem_iff_getElem?.mp hx
    have hiv : i < vs.length := by
      rw [C1]
      exact (List.getElem?_eq_some_iff.mp hi).1
    obtain ⟨c2, u, e1, e2, _⟩ := C2 i x _ hi (List.getElem?_eq_getElem hiv)
    rw [h] at e1
    cases e1
    exact ⟨u, e2⟩
  have noA : ∀ b : Addr, b ∉ (cloCx X A outer s H E q scope cl (capN scope ++ ps) f c').ex := fun b z => absurd (show b ∈ ([] : List Addr) from z) (by simp)
  refine ⟨⟨e0.mod, L.kind, rfl, rfl, Nat.le_refl _, C4, fun y hy => ?_, fun y c z _ => ?_, fun _ => hd, Around.frames_deeper e0.frames, .inr ⟨rfl, rfl⟩, fun b z => absurd z (noA b), e0.bs, e0.bsz, fun b _ _ => noA b,
      fun b z => absurd z (noA b), e0.funs, e0.frf⟩,
    rfl, e0.bare, Un.kept kp, ⟨_, hns, fun i y v e1 e2 e3 => ?_⟩, fun y c e => ?_, e0.hok.fresh (Nat.le_refl _), fun y c e => ?_, fun q hq => absurd (show q ∈ ([] : List (Addr × Obj)) ++ [] from hq) (by simp), e0.hok.kept kp, ?_⟩
  · have hy : scope.names.lookup y = some .cell ∨ scope.names.lookup y = some .free := hy
    rcases hy with hy | hy
    · exact absurd rfl (L.cell _ (PySem.mem_of_lookup hy))
    · have hm : y ∈ capN scope := List.mem_filterMap.mpr ⟨(y, .free), PySem.mem_of_lookup hy, rfl⟩
      obtain ⟨i, hi⟩ := List.mem_iff_getElem?.mp hm
      have hiv : i < vs.length := by
        rw [C1]
        exact (List.getElem?_eq_some_iff.mp hi).1
      obtain ⟨c, u, e1, _, _⟩ := C2 i y _ hi (List.getElem?_eq_getElem hiv)
      exact ⟨c, e1⟩
  · have z : false = true := z
    cases z
  · have e1 : (capN scope ++ ps)[i]? = some y := e1
    have e3 : Vis scope y := e3
    rw [List.getElem?_map] at e2
    by_cases hi : i < (capN scope).length
    · rw [List.getElem?_append_left hi] at e1
      rw [List.getElem?_append_left (by rw [C1]; exact hi)] at e2
      have hiv : i < vs.length := by rw [C1]; exact hi
      rw [List.getElem?_eq_getElem hiv] at e2
      have e2 := Option.some.inj (Option.some.inj e2)
      obtain ⟨c, u, f1, f2, f3⟩ := C2 i y _ e1 (List.getElem?_eq_getElem hiv)
      rw [e2] at f3
      have hk : scope.names.lookup y = some .free := L.cap y (List.mem_of_getElem? e1)
      obtain ⟨o, ho, hdt⟩ := f2
      exact ⟨u, f3, .inr ⟨.inr hk, c, f1, ⟨o, kp _ _ (e0.bs c o ho).1, hdt⟩⟩⟩
    · have hi : (capN scope).length ≤ i := Nat.le_of_not_lt hi
      rw [List.getElem?_append_right hi] at e1
      rw [List.getElem?_append_right (by rw [C1]; exact hi), C1] at e2
      have hj : i - (capN scope).length < as.length := by
        rw [hal]
        exact (List.getElem?_eq_some_iff.mp e1).1
      rw [List.getElem?_eq_getElem hj] at e2
      have e2 := Option.some.inj (Option.some.inj e2)
      obtain ⟨u, hu, ru⟩ := r.get (List.getElem?_eq_getElem hj)
      rw [e2] at ru
      have hk : scope.names.lookup y = some .local := L.par y (List.mem_of_getElem? e1)
      exact ⟨u, ru, .inl ⟨hk, zip_rev_lookup (List.nodup_append.mp L.nd).2.1 hl e1 hu⟩⟩
  · have e : cl.lookup y = some c := e
    obtain ⟨u, o, ho, hdt⟩ := cellOf e
    exact ⟨_, o, kp _ _ (e0.bs c o ho).1, hdt⟩
  · have e : cl.lookup y = some c := e
    obtain ⟨u, o, ho, hdt⟩ := cellOf e
    exact (e0.bs c o ho).2
  · show ((vs ++ as).map some).length = (capN scope ++ ps).length
    rw [List.length_map, List.length_append, List.length_append, C1, hal]
end
/-! ### x(e, ..), x a name that holds a lambda -/
def gClo (i : Nat) (tab : List (Str × G D)) (fs : G (List D)) : G D := fun ρ st => match ρ[i]? with
  | some (some (.clo d caps)) => (match tab.lookup d with
    | some gb => (fs ρ st).bind fun ds s1 => (gb ((caps ++ ds).map some) s1).nox
    | none => .bad)
  | _ => .bad
/-- what is known of the lambda of the def d: its parameters ps, its body's reading gb -/
structure LamB (P : Program) (w : World) (K : PySem.W.Frag) (mg : Str → Option Value) (base : Heap) (k n : Nat) (d : Str) (gb : G D) where
  L : LamD
  ps : List Str
  is : lamIn P d = some L
  lam : LamP ps L.scope
  len : ps.length = n
  bind : ∀ (q : Str) (cl : List (Str × Addr)) (pm cv ctv : Value) (us : List Value), us.length = ps.length → bindArgs (PySem.W.kla_fn "<lambda>" q L.params L.body L.scope cl pm cv ctv) ⟨us, []⟩ = pure (ps.zip us)
  body : ∀ (X : Cx), X.prog = P → X.w = w → X.K = K → X.mg = mg → X.base = base → ∀ (A : Around) (outer : List PySem.Env) (s : Shared) (H : Hp) (E : XK) (f c' : Addr) (cl : List (Str × Addr)), Room k (A.deeper (PySem.W.envX (lamQn d) L.scope s.heap.objs.size f (.ref c') cl)) →
    DE (cloCx X A outer s H E (lamQn d) L.scope cl (capN L.scope ++ ps) f c') (WE' E) L.body gb
section
variable {X : Cx} {W : WX} {pos p : Pos} {x : Str} {e : Expr} {es : List Expr} {fs : G (List D)} {k i : Nat} {tab : List (Str × G D)}
theorem de_clo (hN : X.N[i]? = some x) (hv : Vis X.env.scope x) (hr : Room (k + 1) X.A) (ht : ∀ d gb, tab.lookup d = some gb → Nonempty (LamB X.prog X.w X.K X.mg X.base k (e :: es).length d gb))
    (ha : DA X W (e :: es) fs) (hfl : ∀ ρ st ds s1, fs ρ st = .ok ds s1 → ds.length = (e :: es).length) (hdb : (x == ("__debug__" : Str)) = false := by decide) (hcd : (x == ("__classdict__" : Str)) = false := by decide)
    (he : starEach (e :: es) X.env = (false, eval e X.env) :: starEach es X.env := by rfl) (hpl : (backTo pos (starEach es X.env)).any (·.1) = false := by rfl) : DE X W (.Call (.Name x p) (e :: es) [] pos) (gClo i tab fs) := by
  refine ⟨fun pins s σ H Q I h => ?_⟩
  obtain ⟨β, ρ, st, hρ, hs, h⟩ := h
  unfold gClo at h
  split at h
  · rename_i d caps hd
    split at h
    · rename_i gb hgb
      obtain ⟨B⟩ := ht d gb hgb
      obtain ⟨v0, hv0, rv⟩ := hρ.2 i _ hd
      have h := Out.sat_bind h
      cases rv with
      | @clo f c' d' L' cl pm ctv vs ds' hL hf hco hC rr =>
        have hLL : L' = B.L := Option.some.inj (hL.symm.trans B.is)
        subst hLL
        refine wpAny_Call_Name_kw (thn ((pe_var (pos := p) hN hv hdb hcd).run pins s σ H (fun v H1 => v = .ref f ∧ H1 = H) I ⟨.ref f, hv0, rfl, rfl⟩) fun u s1 ⟨v, H1, I1, r1, q1⟩ => ?_)
        obtain ⟨rfl, rfl⟩ := q1
        cases r1
        have fnat : ∀ {s : Shared} {H : Hp}, L2.Inv X pins σ H s → PySem.W.FnAt f s.heap := fun I => ⟨_, _, _, _, (I.bs f _ hf).1⟩
        refine PySem.W.callWith_F (fnat I1) (thn (ha.run pos pins s1 σ _ (fun as H2 => ∃ β2 ds s2, Ext β H1 β2 H2 ∧ StoOk (zOf X) β2 H2 s2 ∧ Reps (zOf X) β2 H2 as ds ∧ ds.length = (e :: es).length ∧ ((gb ((caps ++ ds).map some) s2).nox).sat (PostV (zOf X) Q β H1) (PostX (zOf X) X.mg (fun c d H' => W c d σ H') β H1)) I1 ?_) fun us s2 ⟨as, H2, I2, r, q⟩ => ⟨fnat I2, ?_⟩) he hpl
        · cases q : fs ρ st with
          | bad => rw [q] at h; exact h.elim
          | exn y s' => exact ⟨β, ρ, st, hρ, hs, by rw [q] at h ⊢; exact h⟩
          | ok ds s' =>
            rw [q] at h
            refine ⟨β, ρ, st, hρ, hs, ?_⟩
            rw [q]
            exact fun as β' H' e' S' r' => ⟨β', ds, s', e', S', r', hfl _ _ _ _ q, h⟩
        · obtain ⟨β2, ds, st2, ex, S2, r2, hlen, hb⟩ := q
          have hul : us.length = B.ps.length := by
            rw [← Paired.length r, r2.length, hlen, B.len]
          obtain ⟨⟨oc, vo, t, hoc, hdc, hvc⟩, _, _⟩ := I2.hok c' _ (ex.cod _ _ hco)
          have rc : codeAny (model X.prog X.w) X.A (.call (.ref f) ⟨us, []⟩) (CR (L2.CX X.prog X.w) X.stack X.prog X.w H2 s2 Q (fun _ _ _ => False)) s2 := by
            refine PySem.W.kla_callFunE hr.depth (I2.bs f _ hf).1 rfl B.lam.co B.lam.gen rfl ⟨c', oc, vo, t, rfl, hoc, hdc, hvc⟩ ?_
            rw [B.bind _ _ _ _ _ us hul]
            refine wpAny_pure (wpAny_newFunctionEnv B.lam.cell (fun y hy => B.lam.par _ (List.of_mem_zip hy).1) (fun h₁ hns hsb => ⟨I2.nolimit.fresh _ hsb, ?_⟩) B.lam.kind)
            show codeAny _ _ (.expr B.L.body (PySem.W.envX (lamQn d) B.L.scope s2.heap.objs.size f (.ref c') cl)) _ _
            have kp : ∀ b o, s2.heap.get? b = some o → h₁.get? b = some o := fun b o e => hsb.extBut b o (Nat.ne_of_lt (Heap.lt_size e)) (Heap.get?_push_of_some _ e)
            have J := clo_start (X := X) (E := fun _ _ _ => False) (q := lamQn d) (f := f) (c' := c') (tk := s2.toks + (B.ps.zip us).length) B.lam I2.env0 hr.hd hC r hul hns kp
            refine PySem.W.kla_codeExpr (wpAny_mono ((B.body X rfl rfl rfl rfl rfl X.A X.stack s2 H2 (fun _ _ _ => False) f c' cl (hr.deeper _)).run [] _ _ H2 Q J ⟨β2, (caps ++ ds).map some, st2, ?_, S2, ?_⟩) (fun v s' hq => ?_) fun e s' hq => hq)
            · have rall : Reps (zOf X) β2 H2 (vs ++ as) (caps ++ ds) := (Reps.ext ex _ _ rr).append r2
              refine ⟨by rw [List.length_map, List.length_map, rall.length], fun j d' hj => ?_⟩
              rw [List.getElem?_map] at hj
              cases q : (caps ++ ds)[j]? with
              | none => rw [q] at hj; cases hj
              | some d2 =>
                rw [q] at hj
                have hj := Option.some.inj (Option.some.inj hj)
                subst hj
                obtain ⟨w', hw, rw'⟩ := rall.get q
                exact ⟨w', by rw [List.getElem?_map, hw]; rfl, rw'⟩
            · cases z' : gb ((caps ++ ds).map some) st2 with
              | bad => rw [z'] at hb; exact hb.elim
              | exn y s' => rw [z'] at hb; exact hb.elim
              | ok d' s' =>
                rw [z'] at hb
                exact fun v β' H' e' S' r' => hb v β' H' (ex.trans e') S' r'
            · obtain ⟨w', H', J', rv, q⟩ := hq
              exact ⟨w', H', J'.os, J'.bare, J'.base, J'.hok, rv, q⟩
          refine wpAny_call (codeAny_mono rc fun r s' hq => ?_)
          cases r with
          | error er => exact passF pins σ H2 s2 er s' I2 hq
          | ok fl =>
            cases fl with
            | ret u => exact I2.after hq
            | next => exact False.elim hq
            | brk => exact False.elim hq
            | cont => exact False.elim hq
    · exact h.elim
  · exact h.elim
end
end DL

set_option Elab.async false
set_option linter.all false
set_option maxRecDepth 100000
set_option maxHeartbeats 2000000
/-! # A lambda with parameters handed to a def: that def's promise over a larger base -/
namespace DL
open PySem PySem.Spec L2
open PyProof.Rows hiding St
open LamX hiding takes0
/-! ### data without lambdas -/
mutual
def D.cf : D → Bool
  | .tup l => dsCf l
  | .lst l => dsCf l
  | .ro l => dsCf l
  | .clo _ _ => false
  | _ => true
def dsCf : List D → Bool
  | [] => true
  | d :: r => D.cf d && dsCf r
end
def SO.cf : SO → Bool
  | .lst l => dsCf l
  | .dK l => dsCf (l.map (·.2))
  | .dN l => dsCf (l.map (·.1)) && dsCf (l.map (·.2))
  | .fN l => dsCf (l.map (·.1)) && dsCf (l.map (·.2))
  | .ins _ l => dsCf (l.map (·.2))
  | _ => true
abbrev Cf (st : Sto) : Prop := st.all SO.cf = true
theorem dsCf_append : ∀ a b : List D, dsCf (a ++ b) = (dsCf a && dsCf b)
  | [], b => by simp [dsCf]
  | d :: a, b => by simp [dsCf, dsCf_append a b, Bool.and_assoc]
theorem dsCf_all : ∀ l : List D, dsCf l = l.all D.cf
  | [] => rfl
  | d :: l => by simp [dsCf, dsCf_all l]
section
variable {P : Program} {w : World} {K : PySem.W.Frag} {b1 b2 : Heap} {β : Bx} {H : Hp}
mutual
theorem Rep.up (hb : ∀ b o, b1.get? b = some o → b2.get? b = some o) : ∀ (d : D) (v : V), Rep ⟨P, K, w, b1⟩ β H v d → Rep ⟨P, K, w, b2⟩ β H v d
  | .non, _, h => by cases h; exact .non
  | .bl _, _, h => by cases h; exact .bl _
  | .int _, _, h => by cases h; exact .int _
  | .str _, _, h => by cases h; exact .str _
  | .tup ds, _, h => by cases h with | tup hs ha hl => exact .tup hs (Reps.up hb ds _ ha) hl
  | .lst ds, _, h => by cases h with | lst hs hn ha hl => exact .lst hs hn (Reps.up hb ds _ ha) hl
  | .ro ds, _, h => by cases h with | ro hs ha hl => exact .ro hs (Reps.up hb ds _ ha) hl
  | .ref _, _, h => by cases h with | ref hm => exact .ref hm
  | .raw _, _, h => by cases h; exact .raw _
  | .clo _ ds, _, h => by
    cases h with
    | clo h1 h2 h3 h4 h5 =>
      obtain ⟨c1, c2, c3, c4⟩ := h4
      exact .clo h1 (hb _ _ h2) h3 ⟨c1, fun i x v e1 e2 => let ⟨c, u, z1, ⟨o, z2, z3⟩, z4⟩ := c2 i x v e1 e2; ⟨c, u, z1, ⟨o, hb _ _ z2, z3⟩, z4⟩, c3, c4⟩ (Reps.up hb ds _ h5)
theorem Reps.up (hb : ∀ b o, b1.get? b = some o → b2.get? b = some o) : ∀ (ds : List D) (vs : List V), Reps ⟨P, K, w, b1⟩ β H vs ds → Reps ⟨P, K, w, b2⟩ β H vs ds
  | [], _, h => by cases h; exact .nil
  | d :: ds, _, h => by cases h with | cons h1 h2 => exact .cons (Rep.up hb d _ h1) (Reps.up hb ds _ h2)
end
mutual
theorem Rep.dn : ∀ (d : D) (v : V), d.cf = true → Rep ⟨P, K, w, b1⟩ β H v d → Rep ⟨P, K, w, b2⟩ β H v d
  | .non, _, _, h => by cases h; exact .non
  | .bl _, _, _, h => by cases h; exact .bl _
  | .int _, _, _, h => by cases h; exact .int _
  | .str _, _, _, h => by cases h; exact .str _
  | .tup ds, _, c, h => by cases h with | tup hs ha hl => exact .tup hs (Reps.dn ds _ c ha) hl
  | .lst ds, _, c, h => by cases h with | lst hs hn ha hl => exact .lst hs hn (Reps.dn ds _ c ha) hl
  | .ro ds, _, c, h => by cases h with | ro hs ha hl => exact .ro hs (Reps.dn ds _ c ha) hl
  | .ref _, _, _, h => by cases h with | ref hm => exact .ref hm
  | .raw _, _, _, h => by cases h; exact .raw _
  | .clo _ ds, _, c, h => by cases c
theorem Reps.dn : ∀ (ds : List D) (vs : List V), dsCf ds = true → Reps ⟨P, K, w, b1⟩ β H vs ds → Reps ⟨P, K, w, b2⟩ β H vs ds
  | [], _, _, h => by cases h; exact .nil
  | d :: ds, _, c, h => by
    have c : (D.cf d && dsCf ds) = true := c
    rw [Bool.and_eq_true] at c
    cases h with | cons h1 h2 => exact .cons (Rep.dn d _ c.1 h1) (Reps.dn ds _ c.2 h2)
end
theorem SORel.rebase {a : Addr} {o : SO} (up : ∀ ds vs, (o.cf = true → dsCf ds = true) → Reps ⟨P, K, w, b1⟩ β H vs ds → Reps ⟨P, K, w, b2⟩ β H vs ds) (h : SORel ⟨P, K, w, b1⟩ β H a o) : SORel ⟨P, K, w, b2⟩ β H a o := by
  cases o with
  | lst ds => obtain ⟨xs, h, r⟩ := h; exact ⟨xs, h, up _ _ id r⟩
  | dK kvs => obtain ⟨vs, h, l, k, r⟩ := h; exact ⟨vs, h, l, k, up _ _ id r⟩
  | tab d q => exact h
  | dN kvs =>
    obtain ⟨es, h, l, k, r1, r2⟩ := h
    exact ⟨es, h, l, k, up _ _ (fun c => by have c : (_ && _) = true := c; rw [Bool.and_eq_true] at c; exact c.1) r1, up _ _ (fun c => by have c : (_ && _) = true := c; rw [Bool.and_eq_true] at c; exact c.2) r2⟩
  | ins c fs => obtain ⟨C, dx, vs, hc, h, l, r⟩ := h; exact ⟨C, dx, vs, hc, h, l, up _ _ id r⟩
  | fN kvs =>
    obtain ⟨o, es, h, l, k, r1, r2⟩ := h
    exact ⟨o, es, h, l, k, up _ _ (fun c => by have c : (_ && _) = true := c; rw [Bool.and_eq_true] at c; exact c.1) r1, up _ _ (fun c => by have c : (_ && _) = true := c; rw [Bool.and_eq_true] at c; exact c.2) r2⟩
theorem StoOk.up {st : Sto} (hb : ∀ b o, b1.get? b = Option.some o → b2.get? b = Option.some o) (S : StoOk ⟨P, K, w, b1⟩ β H st) : StoOk ⟨P, K, w, b2⟩ β H st := ⟨S.len, S.nd, fun n a o h1 h2 => (S.obj n a o h1 h2).rebase fun ds vs _ r => Reps.up hb ds vs r, S.priv⟩
theorem StoOk.dn {st : Sto} (c : Cf st) (S : StoOk ⟨P, K, w, b1⟩ β H st) : StoOk ⟨P, K, w, b2⟩ β H st := ⟨S.len, S.nd, fun n a o h1 h2 => (S.obj n a o h1 h2).rebase fun ds vs z r => Reps.dn ds vs (z (List.all_eq_true.mp c o (List.mem_of_getElem? h2))) r, S.priv⟩
end
/-! ### a larger base -/
theorem only_at (h : Heap) (p : Addr → Bool) : ∃ G : Heap, G.objs.size = h.objs.size ∧ (∀ b o, p b = true → h.get? b = some o → G.get? b = some o) ∧ (∀ b o, G.get? b = some o → h.get? b = some o) ∧ ∀ b, p b = false → G.get? b = none := by
  have m2 : ∀ b, b < h.objs.size → p b = false → b ∈ (List.range h.objs.size).filter fun b => !p b := fun b h1 h2 => List.mem_filter.mpr ⟨List.mem_range.mpr h1, by simp [h2]⟩
  refine ⟨PySem.W.hideAll h ((List.range h.objs.size).filter fun b => !p b), PySem.W.hideAll_size _ _, fun b o hp ho => PySem.W.hideAll_get _ ho fun hm => ?_, fun b o q => PySem.W.of_hideAll _ q, fun b hb => ?_⟩
  · have z := (List.mem_filter.mp hm).2
    rw [hp] at z
    cases z
  · cases q : (PySem.W.hideAll h ((List.range h.objs.size).filter fun b => !p b)).get? b with
    | none => rfl
    | some o =>
      rw [PySem.W.hideAll_none _ (m2 b (Heap.lt_size (PySem.W.of_hideAll _ q)) hb)] at q
      cases q
theorem fun_rebase {h b1 b2 : Heap} : ∀ {l : List PySem.Env}, (∀ b ∈ frs l, b1.get? b = none → b2.get? b = none) → h.FunFrames b1 l → h.FunFrames b2 l
  | [], _, _ => trivial
  | env :: l, k, hl => by
    obtain ⟨hk, ⟨L, o, hf, hn, ho, hd⟩, hr⟩ := hl
    have hm : ∀ b, b = L ∨ b ∈ frs l → b ∈ frs (env :: l) := fun b hb => by
      unfold frs at hb ⊢
      rw [List.filterMap_cons, hf]
      exact hb.elim (fun e => by rw [e]; exact List.mem_cons_self) (List.mem_cons_of_mem _)
    exact ⟨hk, ⟨L, o, hf, k L (hm L (.inl rfl)) hn, ho, hd⟩, fun_rebase (fun b hb => k b (hm b (.inr hb))) hr⟩
theorem Env0.wide {P : Program} {w : World} {K : PySem.W.Frag} {mg : Str → Option Value} {base G : Heap} {A : Around} {outer : List PySem.Env} {s : Shared} {H : Hp} (e : Env0 P w K mg base A outer s H) (hk : ∀ b o, base.get? b = some o → G.get? b = some o)
    (hs : G.objs.size ≤ s.heap.objs.size) (hG : ∀ b o, G.get? b = some o → s.heap.get? b = some o ∧ H b = none) (hf : ∀ b ∈ frs outer, base.get? b = none → G.get? b = none) : Env0 P w K mg G A outer s H :=
  ⟨e.frames, ⟨e.mod.kin.keeps hk, e.mod.glob.keeps hk, let ⟨mb, h1, h2⟩ := e.mod.blt; ⟨mb, h1.keeps hk, h2⟩, e.mod.nolimit.keeps hk⟩, hG, hs, fun_rebase hf e.funs, e.frf, e.hok, e.bare⟩
/-! ### g(e, lambda ps: body) -/
def capsAt : List Nat → Env → Option (List D)
  | [], _ => some []
  | i :: r, ρ => match ρ[i]?, capsAt r ρ with
    | some (some d), some ds => some (d :: ds)
    | _, _ => none
def SO.isTab (d : Str) : SO → Bool
  | .tab d' q => decide (d' = d) && decide (q = lamQn d)
  | _ => false
def gLamArg (d : Str) (is : List Nat) (m : List D → Sto → Out D) (fe : G D) : G D := fun ρ st => (fe ρ st).bind fun a s1 => match capsAt is ρ with
  | some cs => if s1.any (SO.isTab d) = true then (match m [a, .clo d cs] s1 with
    | .ok r s2 => if r.cf = true ∧ Cf s2 then .ok r s2 else .bad
    | _ => .bad) else .bad
  | none => .bad
/-- the slots of the captured names -/
def CapIx (N : List Str) (sc : Scope) (X : Cx) : List Str → List Nat → Prop
  | [], [] => True
  | x :: r, i :: is => N[i]? = some x ∧ X.env.kindOf x = some .cell ∧ X.fn x = true ∧ CapIx N sc X r is
  | _, _ => False
section
variable {X : Cx} {W : WX} {pins : List (Addr × Obj)} {σ : L2.St} {H : Hp} {s : Shared}
/-- what the captured cells hold -/
theorem caps_at {sc : Scope} {β : Bx} {ρ : Env} (I : Inv X pins σ H s) (hρ : RepEnv (zOf X) β H σ ρ) : ∀ {xs : List Str} {is : List Nat} {cs : List D}, CapIx X.N sc X xs is → capsAt is ρ = some cs →
    ∃ vs : List V, vs.length = xs.length ∧ Reps (zOf X) β H vs cs ∧ ∀ (i : Nat) (x : Str) (v : V), xs[i]? = some x → vs[i]? = some v → ∃ c u, X.env.cells.lookup x = some c ∧ s.heap.IsCell c (some u) ∧ RelV v u
  | [], [], cs, _, h => by
    cases h
    exact ⟨[], rfl, .nil, fun i x v e _ => by simp at e⟩
  | [], _ :: _, _, z, _ => z.elim
  | _ :: _, [], _, z, _ => z.elim
  | x :: xs, i :: is, cs, z, h => by
    obtain ⟨hN, hk, hf, hr⟩ := z
    unfold capsAt at h
    split at h
    · rename_i d ds e1 e2
      cases h
      obtain ⟨vs, l, rr, hc⟩ := caps_at (sc := sc) I hρ hr e2
      obtain ⟨v, hv, rv⟩ := hρ.2 i d e1
      refine ⟨v :: vs, by simp [l], .cons rv rr, fun j y w' h1 h2 => ?_⟩
      cases j with
      | zero =>
        simp only [List.getElem?_cons_zero, Option.some.injEq] at h1 h2
        subst h1
        subst h2
        obtain ⟨m, hn, hl⟩ := I.loc
        obtain ⟨u, r, q⟩ := hl i x v hN hv (.inr (.inl hk))
        rcases q with ⟨k', _⟩ | ⟨_, c, hc, z⟩
        · have k1 : X.env.kindOf x = some .local := k'
          rw [hk] at k1
          cases k1
        · exact ⟨c, u, hc, z, r⟩
      | succ j => exact hc j y w' (by simpa using h1) (by simpa using h2)
    · cases h
theorem capIx_mem {N : List Str} {sc : Scope} : ∀ {xs : List Str} {is : List Nat}, CapIx N sc X xs is → ∀ x ∈ xs, X.env.kindOf x = some .cell ∧ X.fn x = true
  | [], _, _, x, hx => by cases hx
  | _ :: _, [], z, _, _ => z.elim
  | y :: xs, i :: is, z, x, hx => by
    obtain ⟨hN, hk, hf, hr⟩ := z
    rcases List.mem_cons.mp hx with e | hx
    · rw [e]
      exact ⟨hk, hf⟩
    · exact capIx_mem hr x hx
theorem mem_capN {sc : Scope} {x : Str} : x ∈ capN sc ↔ (x, NameKind.free) ∈ sc.names := by
  unfold capN
  rw [List.mem_filterMap]
  constructor
  · rintro ⟨⟨y, k⟩, hy, e⟩
    cases k <;> simp at e
    subst e
    exact hy
  · intro h
    exact ⟨_, h, rfl⟩
/-- g(e, lambda ps: body): g's promise is known over every larger base -/
theorem de_lamArg {x d : Str} {g c : Addr} {fd : FuncData} {ps : List Str} {m : List D → Sto → Out D} {k : Nat} {a : Expr} {fe : G D} {is : List Nat} {params : Arguments} {body : Expr} {scope : Scope} {p lpos pos : Pos}
    (hg : Gl X x) (hm : X.mg x = some (.ref g)) (hk : PySem.W.keepIn X.K (.ref g) = true) (F : ∀ base' : Heap, (∀ b o, X.base.get? b = some o → base'.get? b = some o) → FnD X.prog X.w X.K X.mg base' k g fd ps m) (hb : Binds X.K fd ps []) (hl : ps.length = 2)
    (hr : Room k X.A) (TB : TabB X.base X.mg c (tabAddr X.K d)) (hcode : X.env.code = .ref c) (hq : X.env.qual ++ "<lambda>" = lamQn d) (hlam : lamIn X.prog d = some ⟨params, body, scope⟩) (hix : CapIx X.N scope X (capN scope) is)
    (hdef : defaultsOf params X.env = ([], [])) (ha : DE X W a fe) (hdb : (x == ("__debug__" : Str)) = false := by decide)
    (he : starEach [a, .Lambda params body scope lpos] X.env = (false, eval a X.env) :: starEach [.Lambda params body scope lpos] X.env := by rfl) :
    DE X W (.Call (.Name x p) [a, .Lambda params body scope lpos] [] pos) (gLamArg d is m fe) := by
  refine ⟨fun pins s σ H Q I h => ?_⟩
  obtain ⟨β, ρ, st, hρ, hs, h⟩ := h
  refine wpAny_Call_Name_kw (ld_glob I hg hm ?_ hdb)
  refine PySem.W.callWith_K (h₀ := X.base) I.ok.mod.kin hk ?_ he (by rfl)
  rw [he]
  show wpAny _ _ (spliced ((false, eval a X.env) :: (false, eval (.Lambda params body scope lpos) X.env) :: [])) _ _ s
  have h := Out.sat_bind h
  refine Calls.spliced_cons (thn (ha.run pins s σ H (fun v H1 => ∃ β1 da s1, Ext β H β1 H1 ∧ StoOk (zOf X) β1 H1 s1 ∧ Rep (zOf X) β1 H1 v da ∧ (match capsAt is ρ with
      | some cs => if s1.any (SO.isTab d) = true then (match m [da, .clo d cs] s1 with
        | .ok r s2 => if r.cf = true ∧ Cf s2 then Out.ok r s2 else .bad
        | _ => .bad) else .bad
      | none => .bad).sat (PostV (zOf X) Q β H) (PostX (zOf X) X.mg (fun c d H' => W c d σ H') β H)) I ?_) fun ua s1 ⟨va, H1, I1, ra, β1, da, st1, ex1, S1, r1, h1⟩ => ?_)
  · refine ⟨β, ρ, st, hρ, hs, ?_⟩
    cases q : fe ρ st with
    | bad => rw [q] at h; exact h.elim
    | exn y s' => rw [q] at h; exact h
    | ok da s' =>
      rw [q] at h
      exact fun v β' H' e' S' r' => ⟨β', da, s', e', S', r', h⟩
  · split at h1
    · rename_i cs hcs
      split at h1
      · rename_i htab
        obtain ⟨o, ho, hot⟩ := List.any_eq_true.mp htab
        obtain ⟨j, hj⟩ := List.mem_iff_getElem?.mp ho
        have ho2 : o = SO.tab d (lamQn d) := by
          cases o <;> simp [SO.isTab] at hot
          obtain ⟨e1, e2⟩ := hot
          rw [e1, e2]
        subst ho2
        have hfree : ∀ y ∈ scope.names, y.2 = .free → ∃ c, X.env.cells.lookup y.1 = some c := fun y hy e => by
          obtain ⟨y1, y2⟩ := y
          have e : y2 = .free := e
          subst e
          exact I1.ok.has y1 (.inl (capIx_mem hix y1 (mem_capN.mpr hy)).1)
        refine Calls.spliced_cons (lam_make2 (T := tabsOf (zOf X) st1) I1 TB hcode (by rw [hq]; exact tabsOf_mem hj) (fun p hp z => by rw [hq]; exact S1.tabU hj p hp z) S1.tabs hdef hfree fun f c' pm ctv H2 s2 I2 eN T2 hf hfn hfr hco => ?_)
        refine Calls.spliced_nil ⟨I2.kIn, ?_⟩
        have ex2 := ext_lam (β := β1) eN
        have S2 := S1.lam eN T2
        have r2 := Rep.ext ex2 _ _ r1
        have hρ2 := (hρ.ext ex1).ext ex2
        obtain ⟨vs, vl, rr, hcell⟩ := caps_at (sc := scope) I2 hρ2 hix hcs
        -- the cells of the lambda
        have cm : ∀ {y c}, (cloFrom X.env.cells scope.names []).lookup y = some c → y ∈ capN scope ∧ X.env.cells.lookup y = some c := fun {y c} e => by
          rcases cloFrom_mem (PySem.mem_of_lookup e) with hm | ⟨h1, h2⟩
          · cases hm
          · obtain ⟨c1, hc⟩ := hfree _ h1 rfl
            have hc : X.env.cells.lookup y = some c1 := hc
            have e2 : c = c1 := by
              rw [h2, hc] <;> rfl
            rw [e2]
            exact ⟨mem_capN.mpr h1, hc⟩
        have look : ∀ {y}, y ∈ capN scope → ∃ c, (cloFrom X.env.cells scope.names []).lookup y = some c := fun {y} hy => mem_lookup (cloFrom_has (cells := X.env.cells) (acc := []) (mem_capN.mp hy))
        obtain ⟨G, gs, gk, gof, gn⟩ := only_at s2.heap fun b => (X.base.get? b).isSome || decide (b = f) || (capN scope).any fun y => decide (X.env.cells.lookup y = some b)
        have hGb : ∀ b o, X.base.get? b = some o → G.get? b = some o := fun b o e => gk b o (by simp [e]) (I2.bs b o e).1
        have hGf : G.get? f = some (PySem.W.kla_obj "<lambda>" (lamQn d) params body scope (cloFrom X.env.cells scope.names []) pm c' ctv) := gk _ _ (by simp) (by rw [← hq]; exact hf)
        have hGc : ∀ y c u, y ∈ capN scope → X.env.cells.lookup y = some c → s2.heap.IsCell c (some u) → G.IsCell c (some u) := fun y c u hy hc ⟨o, h1, h2⟩ => ⟨o, gk _ _ (by
          rw [Bool.or_eq_true, List.any_eq_true]
          exact .inr ⟨y, hy, by simp [hc]⟩) h1, h2⟩
        have inG : ∀ b o, G.get? b = some o → (X.base.get? b).isSome = true ∨ b = f ∨ ∃ y ∈ capN scope, X.env.cells.lookup y = some b := fun b o e => by
          cases q : ((X.base.get? b).isSome || decide (b = f) || (capN scope).any fun y => decide (X.env.cells.lookup y = some b)) with
          | false =>
            rw [gn b q] at e
            cases e
          | true =>
            rw [Bool.or_eq_true, Bool.or_eq_true, List.any_eq_true] at q
            rcases q with (q | q) | ⟨y, hy, q⟩
            · exact .inl q
            · exact .inr (.inl (of_decide_eq_true q))
            · exact .inr (.inr ⟨y, hy, of_decide_eq_true q⟩)
        have e0 : Env0 X.prog X.w X.K X.mg G X.A X.stack s2 H2 := Env0.wide I2.env0 hGb (Nat.le_of_eq gs) (fun b o e => ⟨gof b o e, by
            rcases inG b o e with q | q | ⟨y, hy, q⟩
            · cases z : X.base.get? b with
              | none => rw [z] at q; cases q
              | some o' => exact (I2.bs b o' z).2
            · rw [q]
              exact hfn
            · exact I2.freeC y b q⟩) fun b hb hn => by
            cases z : G.get? b with
            | none => rfl
            | some o =>
              exfalso
              rcases inG b o z with q | q | ⟨y, hy, q⟩
              · rw [hn] at q
                cases q
              · rw [q] at hb
                exact hfr hb
              · rcases List.mem_cons.mp (I2.stkSub b hb) with e | hb2
                · exact I2.cne y b q e
                · obtain ⟨_, o', ho', _⟩ := I2.ok.funs.mem hb2
                  exact Nat.lt_irrefl _ (Nat.lt_of_lt_of_le (Heap.lt_size ho') (I2.ok.cab y b (capIx_mem hix y hy).2 q))
        have hcap : CapOk G scope (cloFrom X.env.cells scope.names []) vs := ⟨vl, fun i y v h1 h2 => by
            obtain ⟨c1, u, z1, z2, z3⟩ := hcell i y v h1 h2
            have hy := List.mem_of_getElem? h1
            obtain ⟨c2, hc2⟩ := look hy
            have := (cm hc2).2
            rw [z1] at this
            cases this
            exact ⟨c1, u, hc2, hGc y c1 u hy z1 z2, z3⟩, fun y c e => (cm e).1, fun y z c e1 e2 => I2.ok.inj y z c (cm e1).2 (cm e2).2⟩
        have rclo : Rep ⟨X.prog, X.K, X.w, G⟩ β1 H2 (.ref f) (.clo d cs) := .clo (L := ⟨params, body, scope⟩) hlam hGf (by rw [← hq]; exact hco) hcap (Reps.up hGb _ _ rr)
        have rc : codeAny (model X.prog X.w) X.A (.call (.ref g) ⟨[ua, .ref f], []⟩) (CR (L2.CX X.prog X.w) X.stack X.prog X.w H2 s2 Q (fun _ _ _ => False)) s2 := by
          refine (F G hGb).run X.A X.stack s2 H2 ⟨[ua, .ref f], []⟩ [ua, .ref f] [va, .ref f] Q (fun _ _ _ => False) hr e0 ?_ (.cons ra (.cons rfl .nil)) ?_
          · exact hb s2 [ua, .ref f] I2.kIn (by simp [hl])
          · refine ⟨β1, [da, .clo d cs], st1, .cons (Rep.up hGb _ _ r2) (.cons rclo .nil), S2.up hGb, by simp [hl], ?_⟩
            cases q : m [da, .clo d cs] st1 with
            | bad => rw [q] at h1; exact h1.elim
            | exn y s' => rw [q] at h1; exact h1.elim
            | ok r s' =>
              rw [q] at h1
              have h1 : Out.sat (if r.cf = true ∧ Cf s' then Out.ok r s' else .bad) (PostV (zOf X) Q β H) (PostX (zOf X) X.mg (fun c d H' => W c d σ H') β H) := h1
              split at h1
              · rename_i hcf
                exact fun v β' H' e' S' r' => h1 v β' H' ((ex1.trans ex2).trans e') (S'.dn hcf.2) (Rep.dn _ _ hcf.1 r')
              · exact h1.elim
        refine wpAny_call (codeAny_mono rc fun r s' hq => ?_)
        cases r with
        | error er => exact passF pins σ H2 s2 er s' I2 hq
        | ok fl =>
          cases fl with
          | ret u => exact I2.after hq
          | next => exact False.elim hq
          | brk => exact False.elim hq
          | cont => exact False.elim hq
      · exact h1.elim
    · exact h1.elim
end
end DL

set_option Elab.async false
set_option linter.all false
set_option maxRecDepth 100000
set_option maxHeartbeats 2000000
/-! # Dicts by texts and ints; new written lists; tuples many times over -/
namespace DL
open PySem PySem.Spec L2
open PyProof.Rows hiding St
def keyK : D → Option Key
  | .int i => some (.inl i)
  | .str x => some (.inr x)
  | _ => none
def luK : List (Key × D) → Key → Option D
  | [], _ => none
  | (a, v) :: r, k => if a = k then some v else luK r k
def putKD (kvs : List (Key × D)) (k : Key) (v : D) : List (Key × D) :=
  if (kvs.any fun p => decide (p.1 = k)) = true then kvs.map (fun p => if p.1 = k then (p.1, v) else p) else kvs ++ [(k, v)]
section
variable {K : Zx} {β : Bx} {H : Hp}
theorem luK_val {k : Key} : ∀ {vs : List (Key × V)} {kvs : List (Key × D)}, vs.map (·.1) = kvs.map (·.1) → Reps K β H (vs.map (·.2)) (kvs.map (·.2)) → match luK kvs k with
    | some d => ∃ v, valV vs k = some v ∧ Rep K β H v d
    | none => valV vs k = none
  | [], [], _, _ => rfl
  | [], _ :: _, e, _ => by cases e
  | _ :: _, [], e, _ => by cases e
  | (a, x) :: vs, (b, y) :: kvs, e, r => by
    simp only [List.map_cons, List.cons.injEq] at e
    obtain ⟨e1, e2⟩ := e
    have e1 : a = b := e1
    subst e1
    cases r with
    | cons r1 r2 =>
      unfold luK
      by_cases h : a = k
      · rw [if_pos h]
        exact ⟨x, valV_pos h, r1⟩
      · rw [if_neg h]
        rw [valV_neg (p := (a, x)) (by exact h)]
        exact luK_val e2 r2
theorem any_fst {α γ : Type} (k : Key) : ∀ {vs : List (Key × α)} {kvs : List (Key × γ)}, vs.map (·.1) = kvs.map (·.1) → (vs.any fun p => decide (p.1 = k)) = (kvs.any fun p => decide (p.1 = k))
  | [], [], _ => rfl
  | [], _ :: _, e => by cases e
  | _ :: _, [], e => by cases e
  | a :: vs, b :: kvs, e => by
    simp only [List.map_cons, List.cons.injEq] at e
    rw [List.any_cons, List.any_cons, e.1, any_fst k e.2]
theorem map_put {k : Key} {v : V} {d : D} (rv : Rep K β H v d) : ∀ {vs : List (Key × V)} {kvs : List (Key × D)}, vs.map (·.1) = kvs.map (·.1) → Reps K β H (vs.map (·.2)) (kvs.map (·.2)) →
    (vs.map fun kv => if kv.1 = k then (kv.1, v) else kv).map (·.1) = (kvs.map fun p => if p.1 = k then (p.1, d) else p).map (·.1) ∧ Reps K β H ((vs.map fun kv => if kv.1 = k then (kv.1, v) else kv).map (·.2)) ((kvs.map fun p => if p.1 = k then (p.1, d) else p).map (·.2))
  | [], [], _, _ => ⟨rfl, .nil⟩
  | [], _ :: _, e, _ => by cases e
  | _ :: _, [], e, _ => by cases e
  | (a, x) :: vs, (b, y) :: kvs, e, r => by
    simp only [List.map_cons, List.cons.injEq] at e
    obtain ⟨e1, e2⟩ := e
    have e1 : a = b := e1
    subst e1
    cases r with
    | cons r1 r2 =>
      obtain ⟨h1, h2⟩ := map_put (k := k) rv e2 r2
      simp only [List.map_cons]
      by_cases h : a = k
      · simp only [if_pos h]
        exact ⟨by rw [h1], .cons rv h2⟩
      · simp only [if_neg h]
        exact ⟨by rw [h1], .cons r1 h2⟩
theorem putK_rel {k : Key} {v : V} {d : D} (rv : Rep K β H v d) {vs : List (Key × V)} {kvs : List (Key × D)} (e : vs.map (·.1) = kvs.map (·.1)) (r : Reps K β H (vs.map (·.2)) (kvs.map (·.2))) :
    (putK vs k v).map (·.1) = (putKD kvs k d).map (·.1) ∧ Reps K β H ((putK vs k v).map (·.2)) ((putKD kvs k d).map (·.2)) := by
  unfold putK putKD
  rw [any_fst k e]
  by_cases h : (kvs.any fun p => decide (p.1 = k)) = true
  · rw [if_pos h, if_pos h]
    exact map_put rv e r
  · rw [if_neg h, if_neg h, List.map_append, List.map_append, List.map_append, List.map_append]
    exact ⟨by rw [e]; rfl, r.append (.cons rv .nil)⟩
theorem keyK_rel {v : V} {d : D} {k : Key} (r : Rep K β H v d) (h : keyK d = some k) : v = kV k := by
  cases d <;> simp only [keyK, reduceCtorEq, Option.some.injEq] at h
  · subst h
    cases r
    rfl
  · subst h
    cases r
    rfl
end
def dKAt (o : D) (st : Sto) : Option (Nat × List (Key × D)) := match o with
  | .ref n => match st[n]? with
    | some (.dK kvs) => some (n, kvs)
    | _ => none
  | _ => none
theorem dKAt_ok {K : Zx} {β : Bx} {H : Hp} {st : Sto} {o : D} {v : V} {n : Nat} {kvs : List (Key × D)} (h : dKAt o st = some (n, kvs)) (r : Rep K β H v o) (S : StoOk K β H st) :
    o = .ref n ∧ st[n]? = some (.dK kvs) ∧ ∃ a vs, v = .ref a ∧ β.lo[n]? = some a ∧ H a = some (.dK vs) ∧ vs.map (·.1) = kvs.map (·.1) ∧ Reps K β H (vs.map (·.2)) (kvs.map (·.2)) := by
  unfold dKAt at h
  split at h
  · rename_i m
    split at h
    · rename_i l' hl
      cases h
      cases r with
      | ref hm =>
        obtain ⟨so, hso, rel⟩ := S.get hm
        rw [hl] at hso
        cases hso
        obtain ⟨vs, hH, _, ek, rx⟩ := rel
        exact ⟨rfl, hl, _, vs, rfl, hm, hH, ek, rx⟩
    · cases h
  · cases h
def mIxK (o i : D) (st : Sto) : Option D := match dKAt o st, keyK i with
  | some (_, kvs), some k => luK kvs k
  | _, _ => none
def gGetK (fo fi fx : G D) : G D := fun ρ st => (fo ρ st).bind fun o s1 => match dKAt o s1 with
  | none => .bad
  | some _ => (fi ρ s1).bind fun i s2 => (fx ρ s2).bind fun x s3 => match dKAt o s3, keyK i with
    | some (_, kvs), some k => .ok ((luK kvs k).getD x) s3
    | _, _ => .bad
def sPutK (fo fi fv : G D) : G Fl := fun ρ st => (fv ρ st).bind fun v s1 => (fo ρ s1).bind fun o s2 => (fi ρ s2).bind fun i s3 => match dKAt o s3, keyK i with
  | some (n, kvs), some k => if kvs.length < 1000 then .ok (.nx ρ) (s3.set n (.dK (putKD kvs k v))) else .bad
  | _, _ => .bad
section
variable {X : Cx} {W : WX} {pos pos' apos cpos : Pos} {o i e f value : Expr} {es : List Expr} {fo fi fv fx : G D} {k : Nat}
theorem de_ixK (hr : Room k X.A) (ho : DE X W o fo) (hi : DE X W i fi) (hs : NoSl i := by exact fun _ _ => rfl) : DE X W (.Subscript o i pos) (gOp mIxK fo fi) := by
  refine PEmono (pe_dget (hu_of hr) ho hi hs) fun σ H Q h => ?_
  obtain ⟨β, ρ, st, hρ, hs, h⟩ := h
  refine tD_intro hρ hs (Out.sat_bind h) (fun d s1 h1 v β1 H1 e1 S1 r1 => ?_) fun _ _ q => q
  refine tD_intro (hρ.ext e1) S1 (Out.sat_bind h1) (fun d2 s2 h2 v2 β2 H2 e2 S2 r2 => ?_) fun _ _ q => q.ext e1
  obtain ⟨d3, q, p⟩ := oout_sat h2
  unfold mIxK at q
  split at q
  · rename_i n kvs kk hd hk
    obtain ⟨rfl, hst, a, vs, rfl, hm, hH, ek, rr⟩ := dKAt_ok hd (Rep.ext e2 _ _ r1) S2
    have hv := keyK_rel r2 hk
    subst hv
    have z := luK_val (k := kk) ek rr
    rw [q] at z
    obtain ⟨v, z1, z2⟩ := z
    exact ⟨a, v, rfl, by rw [← z1]; exact .k hH, p v β2 H2 (e1.trans e2) S2 z2⟩
  · cases q
theorem de_getK (hr : Room k X.A) (ho : DE X W o fo) (hi : DE X W e fi) (hf : DE X W f fx) (m : M2 X o "get" apos e f cpos) : DE X W (.Call (.Attribute o "get" apos) [e, f] [] cpos) (gGetK fo fi fx) := by
  refine PEmono (pe_dget2 (hu_of hr) ho hi hf m) fun σ H Q h => ?_
  obtain ⟨β, ρ, st, hρ, hs, h⟩ := h
  refine tD_intro hρ hs (Out.sat_bind h) (fun d s1 h1 v β1 H1 e1 S1 r1 => ?_) fun _ _ q => q
  split at h1
  · exact h1.elim
  · rename_i z hz
    obtain ⟨n0, kvs0⟩ := z
    obtain ⟨rfl, hst0, a, vs0, rfl, hm0, hH0, _, _⟩ := dKAt_ok hz r1 S1
    refine ⟨a, rfl, .inl ⟨vs0, .inl hH0⟩, ?_⟩
    refine tD_intro (hρ.ext e1) S1 (Out.sat_bind h1) (fun d2 s2 h2 v2 β2 H2 e2 S2 r2 => ?_) fun _ _ q => q.ext e1
    refine tD_intro ((hρ.ext e1).ext e2) S2 (Out.sat_bind h2) (fun d3 s3 h3 v3 β3 H3 e3 S3 r3 => ?_) fun _ _ q => (q.ext e1).ext e2
    split at h3
    · rename_i n kvs kk hd hk
      obtain ⟨e4, hst, a', vs, e5, hm, hH, ek, rr⟩ := dKAt_ok hd (Rep.ext e3 _ _ (Rep.ext e2 _ _ r1)) S3
      cases e4
      cases e5
      have hv := keyK_rel r2 hk
      subst hv
      have z := luK_val (k := kk) ek rr
      refine ⟨valV vs kk, .k hH, ?_⟩
      cases q : luK kvs kk with
      | none =>
        rw [q] at z h3
        rw [z]
        exact h3 v3 β3 H3 ((e1.trans e2).trans e3) S3 r3
      | some d =>
        rw [q] at z h3
        obtain ⟨v, z1, z2⟩ := z
        rw [z1]
        exact h3 v β3 H3 ((e1.trans e2).trans e3) S3 z2
    · exact h3.elim
theorem ds_putK (hr : Room k X.A) (ho : DE X W o fo) (hi : DE X W i fi) (hv : DE X W value fv) (hs : swapsWith value (some (.Subscript o i pos')) pos.line X.env = pure false := by rfl) : DS X W (.Assign [.Subscript o i pos'] value pos) (sPutK fo fi fv) := by
  refine PSmono (ps_dput (hu_of hr) ho hi hv hs) fun D' σ H h => ?_
  obtain ⟨β, ρ, st, hρ, hs, h⟩ := h
  refine tD_intro hρ hs (Out.sat_bind h) (fun dv s1 h1 v β1 H1 e1 S1 r1 => ?_) fun _ _ q => xs_x q
  refine tD_intro (hρ.ext e1) S1 (Out.sat_bind h1) (fun d_o s2 h2 vo β2 H2 e2 S2 r2 => ?_) fun _ _ q => (xs_x q).ext e1
  refine tD_intro ((hρ.ext e1).ext e2) S2 (Out.sat_bind h2) (fun di s3 h3 vi β3 H3 e3 S3 r3 => ?_) fun _ _ q => ((xs_x q).ext e1).ext e2
  split at h3
  · rename_i n kvs kk hd hk
    split at h3
    · rename_i hz
      obtain ⟨rfl, hst, a, vs, rfl, hm, hH, ek, rr⟩ := dKAt_ok hd (Rep.ext e3 _ _ r2) S3
      have hvk := keyK_rel r3 hk
      subst hvk
      have hl : vs.length = kvs.length := by
        have := congrArg List.length ek
        simpa using this
      refine ⟨a, _, rfl, .k hH (by rw [hl, sizeLine_eq]; omega), ?_⟩
      have ew : Ext β3 H3 β3 (upd H3 a (.dK (putK vs kk v))) := Ext.write hm hH (fun _ z => by cases z) (fun _ _ z => by cases z) (fun _ _ z => by unfold LamX.CodeO at z; cases z) (fun _ z => by cases z)
      obtain ⟨p1, p2⟩ := putK_rel (k := kk) (Rep.ext ((e2.trans e3).trans ew) _ _ r1) ek (Reps.ext ew _ _ rr)
      have p3 : (putK vs kk v).length = (putKD kvs kk dv).length := by
        have := congrArg List.length p1
        simpa using this
      exact h3 σ β3 _ (((e1.trans e2).trans e3).trans ew) (S3.write hm ew ⟨_, upd_same, p3, p1, p2⟩) (((hρ.ext e1).ext e2).ext (e3.trans ew))
    · exact h3.elim
  · exact h3.elim
end
/-! ### {"a": x, ..} -/
abbrev DPs (X : Cx) (W : WX) (pos : Pos) (ks : List (Option Expr)) (vs : List Expr) (ns : List Str) (fs : G (List D)) : Prop := ∃ trs, PPs X pos ks vs trs ∧ ∀ (σ : L2.St) (H : Hp) (Q : List (V × V) → Hp → Prop) (β : Bx) (ρ : Env) (st : Sto), RepEnv (zOf X) β H σ ρ → StoOk (zOf X) β H st →
  (fs ρ st).sat (fun ds st' => ∀ xs β' H', Ext β H β' H' → StoOk (zOf X) β' H' st' → Reps (zOf X) β' H' xs ds → xs.length = ns.length → Q ((ns.map V.str).zip xs) H') (PostX (zOf X) X.mg (fun c d H' => W c d σ H') β H) → tPairs trs σ H Q
section
variable {X : Cx} {W : WX} {pos : Pos} {ks : List (Option Expr)} {vs : List Expr} {ns : List Str} {fs : G (List D)} {f : G D} {e : Expr} {k : Nat}
theorem dps_nil : DPs X W pos [] [] [] aNil := ⟨[], pps_nil, fun σ H Q β ρ st hρ hs h => h [] β H (Ext.refl β H) hs .nil rfl⟩
theorem dps_cons {x : Str} {j : Nat} {p : Pos} (he : DE X W e f) (h : DPs X W pos ks vs ns fs) : DPs X W pos (some (.Constant (.str x) j p) :: ks) (e :: vs) (x :: ns) (aCons f fs) := by
  obtain ⟨trs, hp, ht⟩ := h
  refine ⟨_, pps_cons pe_str he hp, fun σ H Q β ρ st hρ hs h => ?_⟩
  show tD _ _ _ _ _ _ _
  refine tD_intro hρ hs (Out.sat_bind h) (fun d s1 h1 v β1 H1 e1 S1 r1 => ?_) fun _ _ q => q
  refine ht σ H1 _ β1 ρ s1 (hρ.ext e1) S1 ((Out.sat_bind h1).mono (fun ds s2 h2 => fun xs β' H' e' S' r' hl => ?_) fun _ _ q => q.ext e1)
  exact h2 (v :: xs) β' H' (e1.trans e') S' (.cons (Rep.ext e' _ _ r1) r') (by simp [hl])
def keysOf (ns : List Str) (ds : List D) : List (Key × D) := (ns.map (Sum.inr : Str → Key)).zip ds
def gDispK (ns : List Str) (fs : G (List D)) : G D := fun ρ st => match fs ρ st with
  | .ok ds s1 => if ds.length = ns.length then .ok (.ref s1.length) (s1 ++ [.dK (keysOf ns ds)]) else .bad
  | _ => .bad
theorem merge_new : ∀ (l acc : List (Key × V)), ((acc ++ l).map (·.1)).Nodup → mergeK acc l = acc ++ l
  | [], acc, _ => by simp [mergeK]
  | (k, v) :: l, acc, h => by
    have hn : (acc.any fun kv => decide (kv.1 = k)) = false := by
      rw [List.any_eq_false]
      intro p hp
      rw [decide_eq_true_eq]
      intro z
      rw [List.map_append, List.map_cons] at h
      exact (List.nodup_append.mp h).2.2 p.1 (List.mem_map.mpr ⟨p, hp, rfl⟩) k List.mem_cons_self z
    have e : mergeK acc ((k, v) :: l) = mergeK (putK acc k v) l := rfl
    rw [e]
    unfold putK
    rw [hn, if_neg (by simp)]
    rw [merge_new l (acc ++ [(k, v)]) (by rw [List.append_assoc]; exact h), List.append_assoc]
    rfl
theorem zip_kv : ∀ (ns : List Str) (xs : List V), (ns.map V.str).zip xs = ((ns.map (Sum.inr : Str → Key)).zip xs).map fun kv => (kV kv.1, kv.2)
  | [], xs => by simp
  | n :: ns, [] => by simp
  | n :: ns, x :: xs => by
    simp only [List.map_cons, List.zip_cons_cons, zip_kv ns xs]
    rfl
theorem nodup_inr : ∀ {ns : List Str}, ns.Nodup → (ns.map (Sum.inr : Str → Key)).Nodup
  | [], _ => List.nodup_nil
  | n :: ns, h => by
    rw [List.nodup_cons] at h
    rw [List.map_cons, List.nodup_cons]
    refine ⟨fun z => ?_, nodup_inr h.2⟩
    obtain ⟨m, hm, e⟩ := List.mem_map.mp z
    exact h.1 (Sum.inr.inj e ▸ hm)
/-- what the machine held, now filled, is given to the written things -/
theorem grow_held {K : Zx} {β β2 : Bx} {H H2 : Hp} {p : Addr} {st : Sto} {o u : HO} {so : SO} {xs : List V} (hp : H p = none) (hs : ∀ z ∈ β.lo, z ≠ p) (no : ∀ ps, o ≠ .tbl ps) (no2 : ∀ ps, u ≠ .tbl ps) (nl : p ∉ β2.lo) (e : Ext (β.hold p) (upd H p o) β2 H2) (hH : H2 p = some o) (nt : ∀ xs, o ≠ .tup xs) (nf : ∀ ob w, o ≠ .frz ob w) (nL : ∀ xs, o ≠ .lst xs) (nc : ∀ c q, o ≠ LamX.CodeO c q)
    (S2 : StoOk K β2 H2 st) (r : Mv β2 H2 ((β2.back β.pv).add p) (upd H2 p u) → SORel K ((β2.back β.pv).add p) (upd H2 p u) p so) :
    Ext β H ((β2.back β.pv).add p) (upd H2 p u) ∧ StoOk K ((β2.back β.pv).add p) (upd H2 p u) (st ++ [so]) ∧ ((β2.back β.pv).add p).lo[st.length]? = some p ∧ Mv β2 H2 ((β2.back β.pv).add p) (upd H2 p u) := by
  have ne : ∀ b w, H2 b = some w → w ≠ o → b ≠ p := fun b w q n z => by
    rw [z, hH] at q
    exact n (Option.some.inj q).symm
  have hpv : p ∈ β2.pv := by
    rw [e.pv]
    exact List.mem_cons_self
  have mv : Mv β2 H2 ((β2.back β.pv).add p) (upd H2 p u) := by
    refine ⟨fun a xs ha n => ?_, fun b xs q => by rw [upd_ne (ne b _ q fun z => nt _ z.symm)]; exact q, fun b w v q => by rw [upd_ne (ne b _ q fun z => nf _ _ z.symm)]; exact q, fun n a q => ?_, fun c q' z => by rw [upd_ne (ne c _ z fun y => nc _ _ y.symm)]; exact z⟩
    · have hap : a ≠ p := fun z => n.2 (by rw [z]; exact hpv)
      refine ⟨by rw [upd_ne hap]; exact ha, fun z => ?_, fun z => n.2 (by rw [e.pv]; exact List.mem_cons_of_mem _ z)⟩
      rcases List.mem_append.mp z with z | z
      · exact n.1 z
      · exact hap (List.mem_singleton.mp z)
    · show (β2.lo ++ [p])[n]? = some a
      rw [List.getElem?_append_left (List.getElem?_eq_some_iff.mp q).1]
      exact q
  have eh := Ext.held hp e
  have k2 : ∀ b w, b ∈ β2.lo → H2 b = some w → upd H2 p u b = some w := fun b w hb q => by
    rw [upd_ne fun z => nl (by rw [← z]; exact hb)]
    exact q
  refine ⟨⟨?_, rfl, fun b v hb hv hn => ?_, fun b ys q => mv.tup b ys (eh.tup b ys q), fun b w v q => mv.frz b w v (eh.frz b w v q), fun b v q n => ?_, fun c q' z => mv.cod c q' (eh.cod c q' z)⟩, ⟨?_, ?_, fun n a v q1 q2 => ?_, fun q hq => ?_⟩, ?_, mv⟩
  · obtain ⟨new, z1, z2⟩ := eh.pre
    refine ⟨new ++ [p], ?_, fun q hq => ?_⟩
    · show β2.lo ++ [p] = β.lo ++ (new ++ [p])
      rw [← List.append_assoc, ← z1]
      rfl
    · rcases List.mem_append.mp hq with hq | hq
      · exact z2 q hq
      · rw [List.mem_singleton.mp hq]
        exact Free.none hp
  · rw [upd_ne fun z => by rw [z, hp] at hv; cases hv]
    exact eh.keep b v hb hv hn
  · by_cases hb : b = p
    · exact ⟨u, by rw [hb, upd_same], no2⟩
    · obtain ⟨w, hw, nw⟩ := eh.dom b v q n
      exact ⟨w, by rw [upd_ne hb]; exact hw, nw⟩
  · simp [Bx.add, Bx.back, S2.len]
  · exact List.nodup_append.mpr ⟨S2.nd, by simp, fun x hx y hy => by rw [List.mem_singleton.mp hy]; exact fun z => nl (z ▸ hx)⟩
  · have q1 : (β2.lo ++ [p])[n]? = some a := q1
    by_cases hn : n < β2.lo.length
    · rw [List.getElem?_append_left hn] at q1
      rw [List.getElem?_append_left (by rw [← S2.len]; exact hn)] at q2
      exact (S2.obj n a v q1 q2).move mv fun w z => k2 a w (List.mem_of_getElem? q1) z
    · have hn' : n = β2.lo.length := by
        have := (List.getElem?_eq_some_iff.mp q1).1
        simp at this
        omega
      subst hn'
      rw [List.getElem?_append_right (Nat.le_refl _)] at q1
      rw [S2.len, List.getElem?_append_right (Nat.le_refl _)] at q2
      simp at q1 q2
      subst q1 q2
      exact r mv
  · have hq2 : q ∈ β2.pv := by
      rw [e.pv]
      exact List.mem_cons_of_mem _ hq
    obtain ⟨w, hw, nw⟩ := S2.priv q hq2
    by_cases hqp : q = p
    · exact ⟨u, by rw [hqp, upd_same], no2⟩
    · exact ⟨w, by rw [upd_ne hqp]; exact hw, nw⟩
  · show (β2.lo ++ [p])[st.length]? = some p
    rw [← S2.len]
    simp
theorem de_dispK (h : DPs X W pos ks vs ns fs) (nd : ns.Nodup) (h15 : ns.length ≤ 15)
    (hall : ks.all (·.isSome) = true := by rfl) (hl : ks.length = vs.length := by rfl) (h0 : ks ≠ [] := by exact fun z => by cases z) (hk15 : ks.length ≤ 15 := by decide) : DE X W (.Dict ks vs pos) (gDispK ns fs) := by
  obtain ⟨trs, hp, ht⟩ := h
  refine PEmono (pe_disp hp hall hl h0 hk15) fun σ H Q h => ?_
  obtain ⟨β, ρ, st, hρ, hs, h⟩ := h
  intro p hp
  have no : ∀ ps : Array Value, HO.dK [] ≠ .tbl ps := fun _ z => by cases z
  have S0 : StoOk (zOf X) (β.hold p) (upd H p (.dK [])) st := hs.hold hp
  have hρ0 : RepEnv (zOf X) (β.hold p) (upd H p (.dK [])) σ ρ := ⟨hρ.1, fun i d q => let ⟨v, h1, h2⟩ := hρ.2 i d q; ⟨v, h1, Rep.move (Mv.hold hp) _ _ h2⟩⟩
  refine ht σ _ _ (β.hold p) ρ st hρ0 S0 ?_
  unfold gDispK at h
  cases q : fs ρ st with
  | bad => rw [q] at h; exact h.elim
  | exn x s => rw [q] at h; exact h.elim
  | ok ds s1 =>
    rw [q] at h
    refine fun xs β' H' e' S' r' hlen => ?_
    have hdl : ds.length = ns.length := by rw [← r'.length, hlen]
    have h : Out.sat (if ds.length = ns.length then Out.ok (D.ref s1.length) (s1 ++ [SO.dK (keysOf ns ds)]) else .bad) _ _ := h
    rw [if_pos hdl] at h
    have hnl : p ∉ β'.lo := by
      obtain ⟨new, z1, z2⟩ := e'.pre
      rw [z1]
      intro z
      rcases List.mem_append.mp z with z | z
      · exact (hs.nmem hp).1 z
      · obtain ⟨ps, z⟩ := z2 p z _ upd_same
        cases z
    have hH' : H' p = some (.dK []) := e'.keep p _ (hs.nmem hp).1 upd_same no
    refine ⟨hH', (ns.map (Sum.inr : Str → Key)).zip xs, zip_kv ns xs, ?_, ?_⟩
    · rw [List.length_zip, List.length_map]
      omega
    have em : mergeK [] ((ns.map (Sum.inr : Str → Key)).zip xs) = (ns.map (Sum.inr : Str → Key)).zip xs := by
      rw [merge_new _ _ ?_, List.nil_append]
      rw [List.nil_append, List.map_fst_zip (by rw [List.length_map, hlen]; exact Nat.le_refl _)]
      exact nodup_inr nd
    rw [em]
    have f1 : ((ns.map (Sum.inr : Str → Key)).zip xs).map (·.1) = ns.map (Sum.inr : Str → Key) := List.map_fst_zip (by rw [List.length_map, hlen]; exact Nat.le_refl _)
    have f2 : (keysOf ns ds).map (·.1) = ns.map (Sum.inr : Str → Key) := List.map_fst_zip (by rw [List.length_map, hdl]; exact Nat.le_refl _)
    have g1 : ((ns.map (Sum.inr : Str → Key)).zip xs).map (·.2) = xs := List.map_snd_zip (by rw [List.length_map, hlen]; exact Nat.le_refl _)
    have g2 : (keysOf ns ds).map (·.2) = ds := List.map_snd_zip (by rw [List.length_map, hdl]; exact Nat.le_refl _)
    obtain ⟨G1, G2, G3, G4⟩ := grow_held (K := zOf X) (o := .dK []) (u := .dK ((ns.map (Sum.inr : Str → Key)).zip xs)) (so := .dK (keysOf ns ds)) (xs := []) hp (fun z hz e => (hs.nmem hp).1 (e ▸ hz)) no (fun _ z => by cases z) hnl e' hH' (fun _ z => by cases z) (fun _ _ z => by cases z) (fun _ z => by cases z) (fun _ _ z => by unfold LamX.CodeO at z; cases z) S' fun mv => ⟨_, upd_same, by
        have := congrArg List.length (f1.trans f2.symm)
        simpa using this, f1.trans f2.symm, by rw [g1, g2]; exact Reps.move mv _ _ r'⟩
    exact h (.ref p) _ _ G1 G2 (.ref G3)
end
/-! ### a new list that will be written -/
def OpN (K : Zx) (r : R2) (m : D → D → Sto → Option (List D)) : Prop := ∀ (β : Bx) (H : Hp) (st : Sto) (x y : V) (dx dy : D) (l : List D) (Q : VK), Rep K β H x dx → Rep K β H y dy → StoOk K β H st → m dx dy st = some l →
  (∀ p xs, H p = none → Reps K β H xs l → Q (.ref p) (upd H p (.lst xs))) → r x y H Q
def CallN (K : Zx) (r : List V → Hp → VK → Prop) (m : List D → Sto → Option (List D)) : Prop := ∀ (β : Bx) (H : Hp) (st : Sto) (xs : List V) (ds l : List D) (Q : VK), Reps K β H xs ds → StoOk K β H st → m ds st = some l →
  (∀ p ys, H p = none → Reps K β H ys l → Q (.ref p) (upd H p (.lst ys))) → r xs H Q
def gOpN (m : D → D → Sto → Option (List D)) (f g : G D) : G D := fun ρ st => (f ρ st).bind fun d s1 => (g ρ s1).bind fun e s2 => match m d e s2 with
  | some l => .ok (.ref s2.length) (s2 ++ [.lst l])
  | none => .bad
def gCBN (m : List D → Sto → Option (List D)) (f : G (List D)) : G D := fun ρ st => (f ρ st).bind fun ds s1 => match m ds s1 with
  | some l => .ok (.ref s1.length) (s1 ++ [.lst l])
  | none => .bad
section
variable {X : Cx} {W : WX} {pos p : Pos} {a b e : Expr} {es : List Expr} {f g : G D} {fs : G (List D)} {K : Zx} {β β0 : Bx} {H H0 : Hp} {st : Sto}
theorem fin_new {Q : VK} {l : List D} {ys : List V} {p : Addr} (h : PostV K Q β0 H0 (.ref st.length) (st ++ [.lst l])) (e : Ext β0 H0 β H) (S : StoOk K β H st) (hp : H p = none) (r : Reps K β H ys l) : Q (.ref p) (upd H p (.lst ys)) :=
  h (.ref p) (β.add p) _ (e.trans (Ext.grow hp)) (S.grow hp ⟨ys, upd_same, Reps.ext (Ext.grow hp) _ _ r⟩) (.ref (by
    rw [← S.len]
    simp [Bx.add]))
theorem de_opN {op : Operator} {r : R2} {m : D → D → Sto → Option (List D)} (ho : OpR X (binaryOp op) r) (hm : OpN (zOf X) r m) (ha : DE X W a f) (hb : DE X W b g) : DE X W (.BinOp a op b pos) (gOpN m f g) := by
  refine PEmono (pe_op ho ha hb) fun σ H Q h => ?_
  obtain ⟨β, ρ, st, hρ, hs, h⟩ := h
  refine tD_intro hρ hs (Out.sat_bind h) (fun d s1 h1 v β1 H1 e1 S1 r1 => ?_) fun _ _ q => q
  refine tD_intro (hρ.ext e1) S1 (Out.sat_bind h1) (fun d2 s2 h2 v2 β2 H2 e2 S2 r2 => ?_) fun _ _ q => q.ext e1
  split at h2
  · rename_i l q
    exact hm β2 H2 s2 v v2 d d2 l Q (Rep.ext e2 _ _ r1) r2 S2 q fun p xs hp rr => fin_new h2 (e1.trans e2) S2 hp rr
  · exact h2.elim
theorem de_callTyN {x : Str} {T : String} {r : List V → Hp → VK → Prop} {m : List D → Sto → Option (List D)} (hc : CallR X (.type T) r) (hm : CallN (zOf X) r m) (hg : Gl X x) (hmg : X.mg x = none) (hv : bootBuiltins x = some (.type T)) (ha : DA X W (e :: es) fs) (hn : x ≠ "__name__" := by decide) (hdb : (x == ("__debug__" : Str)) = false := by decide)
    (he : starEach (e :: es) X.env = (false, eval e X.env) :: starEach es X.env := by rfl) (hpl : (backTo pos (starEach es X.env)).any (·.1) = false := by rfl) : DE X W (.Call (.Name x p) (e :: es) [] pos) (gCBN m fs) := by
  refine PEmono (pe_callTy hc hg hmg hv ha hn hdb he hpl) fun σ H Q h => ?_
  obtain ⟨β, ρ, st, hρ, hs, h⟩ := h
  refine tDA_intro hρ hs (Out.sat_bind h) (fun d s1 h1 v β1 H1 e1 S1 r1 => ?_) fun _ _ q => q
  split at h1
  · rename_i l q
    exact hm β1 H1 s1 v d l Q r1 S1 q fun p ys hp rr => fin_new h1 e1 S1 hp rr
  · exact h1.elim
def mListN : List D → Sto → Option (List D)
  | [.tup l], _ => some l
  | [.lst l], _ => some l
  | [.ro l], _ => some l
  | _, _ => none
theorem cn_list : CallN K (rListD K) mListN := by
  intro β H st xs ds l Q r S e q
  match ds, r, e with
  | [.tup l], r, e =>
    obtain ⟨v, rfl, r1⟩ := r.one
    cases e
    cases r1 with | tup h1 h2 h3 => exact ⟨_, _, rfl, .inr h1, fun p hp => q p _ hp h2⟩
  | [.lst l], r, e =>
    obtain ⟨v, rfl, r1⟩ := r.one
    cases e
    cases r1 with | lst h1 hn h2 h3 => exact ⟨_, _, rfl, .inl (SqL.of h1), fun p hp => q p _ hp h2⟩
  | [.ro l], r, e =>
    obtain ⟨v, rfl, r1⟩ := r.one
    cases e
    cases r1 with | ro h1 h2 h3 => exact ⟨_, _, rfl, .inl h1.sqL, fun p hp => q p _ hp h2⟩
def mRepN : D → D → Sto → Option (List D)
  | .lst a, .int k, _ => if 0 ≤ k ∧ k ≤ 1000 ∧ a.length ≤ 1000 then some (List.replicate k.toNat a).flatten else none
  | _, _, _ => none
theorem on_rep : OpN K rMulD mRepN := by
  intro β H st x y dx dy l Q rx ry S e q
  cases dx <;> cases dy <;> simp only [mRepN, reduceCtorEq] at e
  case lst.int a k =>
    split at e
    · rename_i hz
      have e := Option.some.inj e
      cases ry; subst e
      cases rx with
      | lst h1 hn h2 h3 =>
        rename_i p xs
        have hl := h2.length
        have hk : k.toNat ≤ 1000 := by omega
        have hm : a.length * k.toNat ≤ 1000 * 1000 := Nat.mul_le_mul hz.2.2 hk
        exact .inr ⟨_, _, xs, rfl, rfl, h1, by omega, by omega, by rw [hl]; exact leLIM hm, fun p hp => q p _ hp (reps_flatten h2 _)⟩
    · cases e
end
end DL

set_option Elab.async false
set_option linter.all false
set_option maxRecDepth 100000
set_option maxHeartbeats 2000000
/-! # zip of a list and a tuple -/
namespace DL
open PySem PySem.Spec L2
open PyProof.Rows hiding St
/-- a sequence's iterator that stands at an item, that item drawn -/
structure Drw (prog : Program) (w : World) (it src : Addr) (P P' : Heap → Prop) (x : Value) : Prop where
  stay : ∀ h h' : Heap, P h → (∀ c o, c = it ∨ c = src → h.get? c = some o → h'.get? c = some o) → P h'
  stay' : ∀ h h' : Heap, P' h → (∀ c o, c = it ∨ c = src → h.get? c = some o → h'.get? c = some o) → P' h'
  live : ∀ h, P' h → it < h.objs.size
  next : ∀ (A : Around) (E : Value → Shared → Prop) (s : Shared) (Q : Value → Shared → Prop), P s.heap → (∀ h', P' h' → Heap.SameBut it s.heap h' → Q x { s with heap := h' }) → wpAny (model prog w) A (Builtin.SmallTypes.nextOf (.ref it)) Q E s
structure Dry (prog : Program) (w : World) (it src : Addr) (P : Heap → Prop) : Prop where
  stay : ∀ h h' : Heap, P h → (∀ c o, c = it ∨ c = src → h.get? c = some o → h'.get? c = some o) → P h'
  fin : ∀ (A : Around) (E : Value → Shared → Prop) (s : Shared) (Q : Value → Shared → Prop), A.handled = none → P s.heap → (∀ h' e, Heap.ExtBut it s.heap h' → (∃ o, h'.get? e = some o ∧ o.cls = .type "StopIteration") → E (.ref e) { s with heap := h' }) → wpAny (model prog w) A (Builtin.SmallTypes.nextOf (.ref it)) Q E s
def PL (it l : Addr) (xs : Array Value) (k : Nat) (h : Heap) : Prop := h.IsListIter it l k ∧ h.IsList l xs
def PT2 (it l : Addr) (xs : Array Value) (k : Nat) (h : Heap) : Prop := h.IsTupleIter it l k ∧ h.IsTuple l xs
section
variable {prog : Program} {w : World} {A : Around} {E : Value → Shared → Prop} {s : Shared}
theorem pl_stay {it l : Addr} {xs : Array Value} {k : Nat} {h h' : Heap} (p : PL it l xs k h) (e : ∀ c o, c = it ∨ c = l → h.get? c = some o → h'.get? c = some o) : PL it l xs k h' := by
  obtain ⟨h1, o, ho, r⟩ := p
  exact ⟨h1.at fun o q => e it o (.inl rfl) q, ⟨o, e _ _ (.inr rfl) ho, r⟩⟩
theorem pt_stay {it l : Addr} {xs : Array Value} {k : Nat} {h h' : Heap} (p : PT2 it l xs k h) (e : ∀ c o, c = it ∨ c = l → h.get? c = some o → h'.get? c = some o) : PT2 it l xs k h' := by
  obtain ⟨h1, o, ho, r⟩ := p
  exact ⟨h1.at fun o q => e it o (.inl rfl) q, ⟨o, e _ _ (.inr rfl) ho, r⟩⟩
theorem drw_l {it l : Addr} {xs : Array Value} {k : Nat} {x : Value} (n : l ≠ it) (hx : xs[k]? = some x) : Drw prog w it l (PL it l xs k) (PL it l xs (k + 1)) x :=
  ⟨fun _ _ p e => pl_stay p e, fun _ _ p e => pl_stay p e, fun h p => by obtain ⟨⟨o, e, _⟩, _⟩ := p; exact Heap.lt_size e, fun A E s Q p q => wpAny_nextOf_list_item p.1 p.2 hx fun h' a b => q h' ⟨a, p.2.extBut b.extBut n⟩ b⟩
theorem drw_t {it l : Addr} {xs : Array Value} {k : Nat} {x : Value} (n : l ≠ it) (hx : xs[k]? = some x) : Drw prog w it l (PT2 it l xs k) (PT2 it l xs (k + 1)) x :=
  ⟨fun _ _ p e => pt_stay p e, fun _ _ p e => pt_stay p e, fun h p => by obtain ⟨⟨o, e, _⟩, _⟩ := p; exact Heap.lt_size e, fun A E s Q p q => RZ.nextOf_tuple_item p.1 p.2 hx fun h' a b => q h' ⟨a, p.2.extBut b.extBut n⟩ b⟩
theorem dry_l {it l : Addr} {xs : Array Value} {k : Nat} (hx : xs[k]? = none) : Dry prog w it l (PL it l xs k) :=
  ⟨fun _ _ p e => pl_stay p e, fun A E s Q hh p q => wpAny_nextOf_list_end hh p.1 p.2 hx q⟩
theorem dry_t {it l : Addr} {xs : Array Value} {k : Nat} (hx : xs[k]? = none) : Dry prog w it l (PT2 it l xs k) :=
  ⟨fun _ _ p e => pt_stay p e, fun A E s Q hh p q => RZ.nextOf_tuple_end hh p.1 p.2 hx q⟩
/-- what a zip's turn leaves be -/
abbrev Stands (z TO i1 i2 : Addr) (h h' : Heap) : Prop := ∀ c o, c ≠ z → c ≠ TO → c ≠ i1 → c ≠ i2 → h.get? c = some o → h'.get? c = some o
theorem zipG_item {z TI TO i1 i2 l1 l2 : Addr} {P1 P1' P2 P2' : Heap → Prop} {x y a b : Value} {Q : Option Value → Shared → Prop} (D : ZipApart z TI TO i1 i2 l1 l2) (N1 : Drw prog w i1 l1 P1 P1' x) (N2 : Drw prog w i2 l2 P2 P2' y)
    (hz : IsZip s.heap z TI TO .none) (hTI : IsPair s.heap TI (.ref i1) (.ref i2)) (hTO : IsPair s.heap TO a b) (h1 : P1 s.heap) (h2 : P2 s.heap)
    (hQ : ∀ h', IsZip h' z TI TO (rawInt s.heap.objs.size) → IsPair h' TO x y → P1' h' → P2' h' → IsPair h' s.heap.objs.size x y → h'.objs.size = s.heap.objs.size + 1 → Stands z TO i1 i2 s.heap h' → Q (some (.ref s.heap.objs.size)) { s with heap := h' }) :
    wpAny (model prog w) A (pyNext (.ref z)) Q E s := by
  have hT : s.TypeIs (.ref z) "zip" := ⟨_, hz, rfl⟩
  unfold pyNext
  refine wpAny_bind (wpAny_attempt (wpAny_callSpecial?_slot (name := Str.ofString "__next__") hT F.slot_zip_next (wpAny_call_entry F.slot_zip_next hT F.entry_zip_next ?_ (F.args_zip_next_1 _))))
  show wpAny _ _ (field (.ref z) 2 >>= _) _ _ _
  refine wpAny_bind (wpAny_field hz rfl (x := .bool false) rfl ?_)
  show wpAny _ _ (field (.ref z) 3 >>= _) _ _ _
  refine wpAny_bind (wpAny_field hz rfl (x := .ref TI) rfl (wpAny_bind (wpAny_seqItems hTI rfl ?_)))
  show wpAny _ _ (Builtin.SmallTypes.ownedTupleIsFree (.ref z) >>= _) _ _ _
  unfold Builtin.SmallTypes.ownedTupleIsFree
  refine wpAny_bind (wpAny_bind (wpAny_field hz rfl (x := .none) rfl (wpAny_pure ?_)))
  simp only [if_true]
  refine wpAny_bind (wpAny_rule (wpAny_bind (wpAny_field hz rfl (x := .ref TO) rfl (wpAny_bind (wpAny_setField_rec hz (by simp) fun g1 z1 s1 => ?_)))))
  replace z1 : IsZip g1 z TI TO .ellipsis := z1
  refine wpAny_bind ?_
  simp only [List.zipIdx_cons, List.zipIdx_nil, List.forIn_cons, List.forIn_nil]
  -- from the first
  have p1 : P1 g1 := N1.stay _ _ h1 fun c o hc e => s1.extBut c o (hc.elim (fun q => by rw [q]; exact D.i1z) fun q => by rw [q]; exact D.l1z) e
  refine wpAny_bind (wpAny_bind (wpAny_onRaise ?_))
  show wpAny _ _ (Builtin.SmallTypes.nextOf (.ref i1) >>= _) _ _ _
  refine wpAny_bind (N1.next _ _ _ _ p1 fun g2 p2 s2 => wpAny_pure ?_)
  have t2 : IsPair g2 TO a b := s2.extBut _ _ D.TOi1 (s1.extBut _ _ D.TOz hTO)
  refine wpAny_bind (wpAny_seqItems t2 rfl (wpAny_bind (wpAny_updateSeq_pair t2 fun g3 t3 s3 => ?_)))
  replace t3 : IsPair g3 TO x b := t3
  refine wpAny_bind (wpAny_letGo (wpAny_pure ?_))
  -- from the second
  have q3 : P2 g3 := N2.stay _ _ h2 fun c o hc e => by
    have c1 : c ≠ z := hc.elim (fun q => by rw [q]; exact D.i2z) fun q => by rw [q]; exact D.l2z
    have c2 : c ≠ i1 := hc.elim (fun q => by rw [q]; exact D.i12.symm) fun q => by rw [q]; exact D.l2i1
    have c3 : c ≠ TO := hc.elim (fun q => by rw [q]; exact D.TOi2.symm) fun q => by rw [q]; exact D.l2TO
    exact s3.extBut c o c3 (s2.extBut c o c2 (s1.extBut c o c1 e))
  refine wpAny_bind (wpAny_bind (wpAny_onRaise ?_))
  show wpAny _ _ (Builtin.SmallTypes.nextOf (.ref i2) >>= _) _ _ _
  refine wpAny_bind (N2.next _ _ _ _ q3 fun g4 q4 s4 => wpAny_pure ?_)
  have t4 : IsPair g4 TO x b := s4.extBut _ _ D.TOi2 t3
  refine wpAny_bind (wpAny_seqItems t4 rfl (wpAny_bind (wpAny_updateSeq_pair t4 fun g5 t5 s5 => ?_)))
  replace t5 : IsPair g5 TO x y := t5
  refine wpAny_bind (wpAny_letGo (wpAny_pure (wpAny_pure ?_)))
  -- the pair
  refine wpAny_bind (wpAny_seqItems t5 rfl (wpAny_bind (wpAny_newTuple ?_)))
  have sz : g5.objs.size = s.heap.objs.size := by rw [s5.1, s4.1, s3.1, s2.1, s1.1]
  have z5 : IsZip g5 z TI TO .ellipsis := s5.extBut _ _ D.TOz.symm (s4.extBut _ _ D.i2z.symm (s3.extBut _ _ D.TOz.symm (s2.extBut _ _ D.i1z.symm z1)))
  have k5 : Stands z TO i1 i2 s.heap g5 := fun c o c1 c2 c3 c4 e => s5.extBut _ _ c2 (s4.extBut _ _ c4 (s3.extBut _ _ c2 (s2.extBut _ _ c3 (s1.extBut _ _ c1 e))))
  have p5 : P1' g5 := N1.stay' _ _ p2 fun c o hc e => by
    have c2 : c ≠ TO := hc.elim (fun q => by rw [q]; exact D.TOi1.symm) fun q => by rw [q]; exact D.l1TO
    have c3 : c ≠ i2 := hc.elim (fun q => by rw [q]; exact D.i12) fun q => by rw [q]; exact D.l1i2
    exact s5.extBut _ _ c2 (s4.extBut _ _ c3 (s3.extBut _ _ c2 e))
  have q5 : P2' g5 := N2.stay' _ _ q4 fun c o hc e => s5.extBut c o (hc.elim (fun q => by rw [q]; exact D.TOi2.symm) fun q => by rw [q]; exact D.l2TO) e
  have zl : z < g5.objs.size := Heap.lt_size z5
  show wpAny _ _ (Builtin.SmallTypes.ownedTupleHandOut (.ref z) (.ref g5.objs.size) >>= _) _ _ _
  unfold Builtin.SmallTypes.ownedTupleHandOut
  have z6 : IsZip (g5.push { cls := .type "tuple", data := .seq #[x, y] }) z TI TO .ellipsis := Heap.get?_push_of_some _ z5
  refine wpAny_bind (wpAny_bind (wpAny_setField_rec z6 (by simp) fun g7 z7 s7 => ?_))
  replace z7 : IsZip g7 z TI TO (rawInt g5.objs.size) := z7
  refine wpAny_setField_rec z7 (by simp) fun g8 z8 s8 => ?_
  replace z8 : IsZip g8 z TI TO (rawInt g5.objs.size) := z8
  have up : ∀ c o, c ≠ z → g5.get? c = some o → g8.get? c = some o := fun c o c1 e => s8.extBut _ _ c1 (s7.extBut _ _ c1 (Heap.get?_push_of_some _ e))
  have t8 : IsPair g8 g5.objs.size x y := s8.extBut _ _ (Nat.ne_of_gt zl) (s7.extBut _ _ (Nat.ne_of_gt zl) (Heap.get?_push_size _ rfl))
  have sz8 : g8.objs.size = g5.objs.size + 1 := by rw [s8.1, s7.1, Heap.size_push]
  rw [sz] at z8 t8 sz8
  refine wpAny_pure ⟨_, rfl, wpAny_pure ?_⟩
  show Q (some (.ref g5.objs.size)) _
  rw [sz]
  refine hQ g8 z8 (up _ _ D.TOz t5) (N1.stay' _ _ p5 fun c o hc e => up c o (hc.elim (fun q => by rw [q]; exact D.i1z) fun q => by rw [q]; exact D.l1z) e) (N2.stay' _ _ q5 fun c o hc e => up c o (hc.elim (fun q => by rw [q]; exact D.i2z) fun q => by rw [q]; exact D.l2z) e) t8 sz8 fun c o c1 c2 c3 c4 e => up c o c1 (k5 c o c1 c2 c3 c4 e)
theorem zipG_end {z TI TO i1 i2 l1 l2 : Addr} {P1 P1' P2 : Heap → Prop} {a b x : Value} {Q : Option Value → Shared → Prop} (hh : A.handled = none) (D : ZipApart z TI TO i1 i2 l1 l2) (N : Dry prog w i1 l1 P1 ∨ Drw prog w i1 l1 P1 P1' x ∧ Dry prog w i2 l2 P2)
    (hz : IsZip s.heap z TI TO .none) (hTI : IsPair s.heap TI (.ref i1) (.ref i2)) (hTO : IsPair s.heap TO a b) (h1 : P1 s.heap) (h2 : P2 s.heap)
    (hQ : ∀ h', Stands z TO i1 i2 s.heap h' → Q none { s with heap := h' }) : wpAny (model prog w) A (pyNext (.ref z)) Q E s := by
  have hT : s.TypeIs (.ref z) "zip" := ⟨_, hz, rfl⟩
  unfold pyNext
  have last : ∀ (h' : Heap) (e : Addr), Stands z TO i1 i2 s.heap h' → (∃ o, h'.get? e = some o ∧ o.cls = .type "StopIteration") →
      wpAny (model prog w) A (match (Except.error (.ref e) : Except Value (Option Value)) with
        | .ok (some v) => pure (some v)
        | .ok none => unsupported "iter:the-iterator's-class-has-no-__next__"
        | .error e => do if ← isInstance e (.type "StopIteration") then pure none else throw e) Q E { s with heap := h' } := fun h' e k he => by
    obtain ⟨o, ho, hc⟩ := he
    refine wpAny_bind (wpAny_isInstance (T := "StopIteration") (b := true) ⟨o, ho, hc⟩ isSubtype_stop ?_)
    exact wpAny_pure (hQ _ k)
  refine wpAny_bind (wpAny_attempt (wpAny_callSpecial?_slot (name := Str.ofString "__next__") hT F.slot_zip_next (wpAny_call_entry F.slot_zip_next hT F.entry_zip_next ?_ (F.args_zip_next_1 _))))
  show wpAny _ _ (field (.ref z) 2 >>= _) _ _ _
  refine wpAny_bind (wpAny_field hz rfl (x := .bool false) rfl ?_)
  show wpAny _ _ (field (.ref z) 3 >>= _) _ _ _
  refine wpAny_bind (wpAny_field hz rfl (x := .ref TI) rfl (wpAny_bind (wpAny_seqItems hTI rfl ?_)))
  show wpAny _ _ (Builtin.SmallTypes.ownedTupleIsFree (.ref z) >>= _) _ _ _
  unfold Builtin.SmallTypes.ownedTupleIsFree
  refine wpAny_bind (wpAny_bind (wpAny_field hz rfl (x := .none) rfl (wpAny_pure ?_)))
  simp only [if_true]
  refine wpAny_bind (wpAny_rule (wpAny_bind (wpAny_field hz rfl (x := .ref TO) rfl (wpAny_bind (wpAny_setField_rec hz (by simp) fun g1 z1 s1 => ?_)))))
  replace z1 : IsZip g1 z TI TO .ellipsis := z1
  refine wpAny_bind ?_
  simp only [List.zipIdx_cons, List.zipIdx_nil, List.forIn_cons, List.forIn_nil]
  have to1 : ∀ c o, c = i1 ∨ c = l1 → s.heap.get? c = some o → g1.get? c = some o := fun c o hc e => s1.extBut c o (hc.elim (fun q => by rw [q]; exact D.i1z) fun q => by rw [q]; exact D.l1z) e
  refine wpAny_bind (wpAny_bind (wpAny_onRaise ?_))
  show wpAny _ _ (Builtin.SmallTypes.nextOf (.ref i1) >>= _) _ _ _
  rcases N with N1 | ⟨N1, N2⟩
  · refine wpAny_bind (N1.fin _ _ _ _ hh (N1.stay _ _ h1 to1) fun g2 e s2 he => ?_)
    obtain ⟨oe, hoe, hce⟩ := he
    have z2 : IsZip g2 z TI TO .ellipsis := s2 _ _ D.i1z.symm z1
    have hez : e ≠ z := fun x => by subst x; rw [z2] at hoe; cases hoe; simp at hce
    refine wpAny_setField_rec z2 (by simp) fun g3 _ s3 => last g3 e (fun c o c1 _ c3 _ x => s3.extBut _ _ c1 (s2 _ _ c3 (s1.extBut _ _ c1 x))) ⟨oe, s3.extBut _ _ hez hoe, hce⟩
  · refine wpAny_bind (N1.next _ _ _ _ (N1.stay _ _ h1 to1) fun g2 p2 s2 => wpAny_pure ?_)
    have t2 : IsPair g2 TO a b := s2.extBut _ _ D.TOi1 (s1.extBut _ _ D.TOz hTO)
    refine wpAny_bind (wpAny_seqItems t2 rfl (wpAny_bind (wpAny_updateSeq_pair t2 fun g3 t3 s3 => ?_)))
    refine wpAny_bind (wpAny_letGo (wpAny_pure ?_))
    have q3 : P2 g3 := N2.stay _ _ h2 fun c o hc e => by
      have c1 : c ≠ z := hc.elim (fun q => by rw [q]; exact D.i2z) fun q => by rw [q]; exact D.l2z
      have c2 : c ≠ i1 := hc.elim (fun q => by rw [q]; exact D.i12.symm) fun q => by rw [q]; exact D.l2i1
      have c3 : c ≠ TO := hc.elim (fun q => by rw [q]; exact D.TOi2.symm) fun q => by rw [q]; exact D.l2TO
      exact s3.extBut c o c3 (s2.extBut c o c2 (s1.extBut c o c1 e))
    refine wpAny_bind (wpAny_bind (wpAny_onRaise ?_))
    show wpAny _ _ (Builtin.SmallTypes.nextOf (.ref i2) >>= _) _ _ _
    refine wpAny_bind (N2.fin _ _ _ _ hh q3 fun g4 e s4 he => ?_)
    obtain ⟨oe, hoe, hce⟩ := he
    have z4 : IsZip g4 z TI TO .ellipsis := s4 _ _ D.i2z.symm (s3.extBut _ _ D.TOz.symm (s2.extBut _ _ D.i1z.symm z1))
    have hez : e ≠ z := fun x => by subst x; rw [z4] at hoe; cases hoe; simp at hce
    refine wpAny_setField_rec z4 (by simp) fun g5 _ s5 => last g5 e (fun c o c1 c2 c3 c4 x => s5.extBut _ _ c1 (s4 _ _ c4 (s3.extBut _ _ c2 (s2.extBut _ _ c3 (s1.extBut _ _ c1 x))))) ⟨oe, s5.extBut _ _ hez hoe, hce⟩
end
/-! ### zip(xs, ys) made, xs a list, ys a tuple -/
def zH1 (h : Heap) (l1 : Addr) : Heap := h.push { cls := .type "list_iterator", data := .fields #[.ref l1, .int 0 0] }
def zH2 (h : Heap) (l1 l2 : Addr) : Heap := (zH1 h l1).push { cls := .type "tuple_iterator", data := .fields #[.ref l2, .int 0 0] }
def zH3 (h : Heap) (l1 l2 : Addr) : Heap := (zH2 h l1 l2).push { cls := .type "tuple", data := .seq #[.ref h.objs.size, .ref (zH1 h l1).objs.size] }
def zH4 (h : Heap) (l1 l2 : Addr) : Heap := (zH3 h l1 l2).push { cls := .type "tuple", data := .seq #[.none, .none] }
def zH5 (h : Heap) (l1 l2 : Addr) : Heap := (zH4 h l1 l2).push { cls := .type "zip", data := .fields #[.none, .bool false, .bool false, .ref (zH2 h l1 l2).objs.size, .ref (zH3 h l1 l2).objs.size] }
theorem meets_zipLT (l1 l2 : Addr) (xs ys : Array Value) : Meets (Builtin.«zip.__new__» ⟨[.type "zip", .ref l1, .ref l2], []⟩) (fun _ R s => s.heap.IsList l1 xs ∧ s.heap.IsTuple l2 ys ∧ R (.ok (.ret (.ref (zH4 s.heap l1 l2).objs.size))) { s with heap := zH5 s.heap l1 l2 }) :=
  .of_wp fun prog w A R s h => by
    obtain ⟨hp, g, d, tk, os⟩ := s
    obtain ⟨hl1, hl2, h⟩ := h
    have hsub := sub_zip
    have hL1 : Heap.IsList (Shared.heap ⟨hp, g, d, tk, os⟩) l1 xs := hl1
    have hL2 : Heap.IsTuple (Shared.heap ⟨hp.push { cls := .type "list_iterator", data := .fields #[.ref l1, .int 0 0] }, g, d, tk, os⟩) l2 ys := Heap.IsTuple.push hl2 _
    wp_walk using wpAny_pyIter_list hL1, wpAny_pyIter_tuple hL2
    exact ⟨_, rfl, h⟩
section
variable {prog : Program} {w : World} {A : Around} {E : Value → Shared → Prop} {s : Shared}
theorem call_zipLT {l1 l2 : Addr} {xs ys : Array Value} {Q : Value → Shared → Prop} (hl1 : s.heap.IsList l1 xs) (hl2 : s.heap.IsTuple l2 ys)
    (h : ∀ h', IsZip h' (s.heap.objs.size + 4) (s.heap.objs.size + 2) (s.heap.objs.size + 3) .none → IsPair h' (s.heap.objs.size + 2) (.ref s.heap.objs.size) (.ref (s.heap.objs.size + 1)) →
      IsPair h' (s.heap.objs.size + 3) .none .none → h'.IsListIter s.heap.objs.size l1 0 → h'.IsTupleIter (s.heap.objs.size + 1) l2 0 → (∀ c o, s.heap.get? c = some o → h'.get? c = some o) → Q (.ref (s.heap.objs.size + 4)) { s with heap := h' }) :
    wpAny (model prog w) A (call (.type "zip") [.ref l1, .ref l2]) Q E s := by
  refine callType_new F.called_zip (by decide) (F.typeCall_zip_2 _ _) (F.newCall_zip_2 _ _) (fun obj => F.args_object_init_3 obj _ _) F.entry_zip_new (meets_zipLT l1 l2 xs ys) ⟨hl1, hl2, ?_⟩
  have e1 : (zH1 s.heap l1).objs.size = s.heap.objs.size + 1 := Heap.size_push ..
  have e2 : (zH2 s.heap l1 l2).objs.size = s.heap.objs.size + 2 := by rw [zH2, Heap.size_push, e1]
  have e3 : (zH3 s.heap l1 l2).objs.size = s.heap.objs.size + 3 := by rw [zH3, Heap.size_push, e2]
  have e4 : (zH4 s.heap l1 l2).objs.size = s.heap.objs.size + 4 := by rw [zH4, Heap.size_push, e3]
  have u2 : ∀ {c o}, (zH1 s.heap l1).get? c = some o → (zH2 s.heap l1 l2).get? c = some o := fun e => Heap.get?_push_of_some _ e
  have u3 : ∀ {c o}, (zH2 s.heap l1 l2).get? c = some o → (zH3 s.heap l1 l2).get? c = some o := fun e => Heap.get?_push_of_some _ e
  have u4 : ∀ {c o}, (zH3 s.heap l1 l2).get? c = some o → (zH4 s.heap l1 l2).get? c = some o := fun e => Heap.get?_push_of_some _ e
  have u5 : ∀ {c o}, (zH4 s.heap l1 l2).get? c = some o → (zH5 s.heap l1 l2).get? c = some o := fun e => Heap.get?_push_of_some _ e
  have g1 : (zH5 s.heap l1 l2).get? s.heap.objs.size = some _ := u5 (u4 (u3 (u2 (Heap.get?_push_size _ rfl))))
  have g2 : (zH5 s.heap l1 l2).get? (zH1 s.heap l1).objs.size = some _ := u5 (u4 (u3 (Heap.get?_push_size _ rfl)))
  have g3 : (zH5 s.heap l1 l2).get? (zH2 s.heap l1 l2).objs.size = some _ := u5 (u4 (Heap.get?_push_size _ rfl))
  have g4 : (zH5 s.heap l1 l2).get? (zH3 s.heap l1 l2).objs.size = some _ := u5 (Heap.get?_push_size _ rfl)
  have g5 : (zH5 s.heap l1 l2).get? (zH4 s.heap l1 l2).objs.size = some _ := Heap.get?_push_size _ rfl
  rw [e1] at g2
  rw [e1, e2] at g3
  rw [e3] at g4
  rw [e2, e3, e4] at g5
  rw [e4]
  exact ⟨⟨_, g5, rfl⟩, h _ g5 g3 g4 ⟨_, g1, rfl, rfl⟩ ⟨_, g2, rfl, rfl⟩ fun c o x => u5 (u4 (u3 (u2 (Heap.get?_push_of_some _ x))))⟩
end
/-! ### its walk -/
def ItzM (K : PySem.W.Frag) (a b : Addr) : It :=
  ⟨fun i H => ∃ (xs ys : List V) (x y : V), SqL K H a xs ∧ SqT K H b ys ∧ xs[i]? = some x ∧ ys[i]? = some y,
    fun i H v H' => ∃ T x y, v = .ref T ∧ H T = none ∧ H' = upd H T (.tup [x, y]) ∧ (∀ xs, SqL K H a xs → xs[i]? = some x) ∧ ∀ ys, SqT K H b ys → ys[i]? = some y,
    fun i H => ∃ xs ys : List V, SqL K H a xs ∧ SqT K H b ys ∧ (xs.length ≤ i ∨ ys.length ≤ i)⟩
theorem turn_zipM {P : Program} {w : World} {K : PySem.W.Frag} {elts : List Expr} {kk : Nat} {tpos : Pos} {a b z TI TO i1 i2 : Addr} (D : ZipApart z TI TO i1 i2 a b) :
    Turn P w K (.Tuple elts kk tpos) (ItzM K a b) [z, TI, TO, i1, i2] z (fun i h => IsZip h z TI TO .none ∧ IsPair h TI (.ref i1) (.ref i2) ∧ (∃ x y, IsPair h TO x y) ∧ h.IsListIter i1 a i ∧ h.IsTupleIter i2 b i) where
  mem := by simp
  obj := fun i h st c hc => by
    obtain ⟨hz, hTI, ⟨x, y, hTO⟩, ⟨o1, e1, _, d1⟩, ⟨o2, e2, _, d2⟩⟩ := st
    have e' : c = z ∨ c = TI ∨ c = TO ∨ c = i1 ∨ c = i2 := by simpa using hc
    rcases e' with q | q | q | q | q
    · rw [q]; exact ⟨_, hz, fun v q => nomatch q⟩
    · rw [q]; exact ⟨_, hTI, fun v q => nomatch q⟩
    · rw [q]; exact ⟨_, hTO, fun v q => nomatch q⟩
    · rw [q]; exact ⟨o1, e1, fun v q => by rw [d1] at q; cases q⟩
    · rw [q]; exact ⟨o2, e2, fun v q => by rw [d2] at q; cases q⟩
  keep := fun i h h' st k => by
    obtain ⟨hz, hTI, ⟨x, y, hTO⟩, h1, h2⟩ := st
    exact ⟨k z (by simp) _ hz, k TI (by simp) _ hTI, ⟨x, y, k TO (by simp) _ hTO⟩, h1.at fun o q => k i1 (by simp) o q, h2.at fun o q => k i2 (by simp) o q⟩
  item := by
    intro X hP hw hK hc i pins s σ H E I hf st hg
    subst hP hw hK
    obtain ⟨hz, hTI, ⟨x0, y0, hTO⟩, h1, h2⟩ := st
    obtain ⟨xs, ys, x, y, hqx, hqy, hx, hy⟩ := hg
    obtain ⟨its, rv, p, _⟩ := I.list hqx
    obtain ⟨its2, rv2, p2, _⟩ := I.tuple hqy
    obtain ⟨u, hu, ru⟩ := rv.get hx
    obtain ⟨u2, hu2, ru2⟩ := rv2.get hy
    have hzl : z < s.heap.objs.size := Heap.lt_size hz
    refine zipG_item D (drw_l (x := u) D.l1i1 (by simpa using hu)) (drw_t (x := u2) D.l2i2 (by simpa using hu2)) hz hTI hTO ⟨h1, p.isList⟩ ⟨h2, p2⟩ fun h' z' TO' q1 q2 hT hsz hk => ?_
    refine ⟨_, rfl, wpAny_letOwnedTupleGo_zip (s := { s with heap := h' }) z' fun h'' z'' sb => ?_⟩
    have new : ObjOk X.prog X.w (upd H s.heap.objs.size (.tup [x, y])) h'' s.heap.objs.size (.tup [x, y]) :=
      ⟨by show 2 ≤ sizeLine; decide, [u, u2], .cons ru (.cons ru2 .nil), ⟨_, (sb.2 _ (Nat.ne_of_gt hzl)).trans hT, rfl, _, rfl⟩⟩
    have I1 : Inv X pins σ (upd H s.heap.objs.size (.tup [x, y])) { s with heap := h'' } :=
      I.turnedNew (t' := s.toks) (ch := [z, TI, TO, i1, i2]) (fun c o hb q => (sb.2 c (fun q' => hb (by simp [q']))).trans (hk c o (fun q' => hb (by simp [q'])) (fun q' => hb (by simp [q'])) (fun q' => hb (by simp [q'])) (fun q' => hb (by simp [q'])) q)) hf (Nat.le_refl _) new
    refine ⟨.ref s.heap.objs.size, _, I1, rfl, ⟨_, x, y, rfl, I.hok.fresh (Nat.le_refl _), rfl, fun l hl => by rw [I.list_inj hl hqx]; exact hx, fun l hl => by rw [I.tuple_inj hl hqy]; exact hy⟩, ⟨z'', ?_, ⟨u, u2, ?_⟩, ?_, ?_⟩, fun c hcm => ?_⟩
    · exact (sb.2 _ D.TIz).trans (hk _ _ D.TIz D.TITO D.TIi1 D.TIi2 hTI)
    · exact (sb.2 _ D.TOz).trans TO'
    · exact q1.1.at fun o q => (sb.2 _ D.i1z).trans q
    · exact q2.1.at fun o q => (sb.2 _ D.i2z).trans q
    · have hlt : c < s.heap.objs.size := by
        have e' : c = z ∨ c = TI ∨ c = TO ∨ c = i1 ∨ c = i2 := by simpa using hcm
        rcases e' with q | q | q | q | q
        · rw [q]; exact hzl
        · rw [q]; exact Heap.lt_size hTI
        · rw [q]; exact Heap.lt_size hTO
        · rw [q]; obtain ⟨_, e1, _⟩ := h1; exact Heap.lt_size e1
        · rw [q]; obtain ⟨_, e2, _⟩ := h2; exact Heap.lt_size e2
      rw [upd_ne (Nat.ne_of_lt hlt)]
      exact (hf c hcm).1
  done := by
    intro X hP hw hK hc i pins s σ H E I hf st hg
    subst hP hw hK
    obtain ⟨hz, hTI, ⟨x0, y0, hTO⟩, h1, h2⟩ := st
    obtain ⟨xs, ys, hqx, hqy, hend⟩ := hg
    obtain ⟨its, rv, p, _⟩ := I.list hqx
    obtain ⟨its2, rv2, p2, _⟩ := I.tuple hqy
    have l1 := rv.length
    have l2 := rv2.length
    have fin : ∀ h' : Heap, Stands z TO i1 i2 s.heap h' → _ := fun h' hk => I.turnedL (t' := s.toks) (ch := [z, TI, TO, i1, i2]) (fun c o hb q => hk c o (fun q' => hb (by simp [q'])) (fun q' => hb (by simp [q'])) (fun q' => hb (by simp [q'])) (fun q' => hb (by simp [q'])) q) hf
    cases hx : its.toArray[i]? with
    | none => exact zipG_end (P1' := fun _ => True) (x := .none) (I.ok.hd hc) D (.inl (dry_l hx)) hz hTI hTO ⟨h1, p.isList⟩ (P2 := PT2 i2 b its2.toArray i) ⟨h2, p2⟩ fun h' hk => ⟨rfl, fin h' hk⟩
    | some u =>
      have hy : its2.toArray[i]? = none := by
        have hxl : i < its.length := by
          have := (Array.getElem?_eq_some_iff.mp hx).1
          simpa using this
        rcases hend with q | q
        · exact absurd hxl (by omega)
        · simp
          omega
      exact zipG_end (I.ok.hd hc) D (.inr ⟨drw_l D.l1i1 hx, dry_t hy⟩) hz hTI hTO ⟨h1, p.isList⟩ ⟨h2, p2⟩ fun h' hk => ⟨rfl, fin h' hk⟩
  self := fun A i s Q E st h => wpAny_pyIter_zip st.1 h
def iZipM (K : PySem.W.Frag) (ta : TA) : TI := fun σ H R => ta σ H fun vs H1 => ∃ a b xs ys, vs = [.ref a, .ref b] ∧ SqL K H1 a xs ∧ SqT K H1 b ys ∧ R (ItzM K a b) H1
theorem pi_zipM {X : Cx} {e e2 : Expr} {ta : TA} {p pos tpos : Pos} {elts : List Expr} {kk : Nat} (hg : Gl X "zip") (hm : X.mg "zip" = none) (ha : PA X [e, e2] ta)
    (hs : starEach [e, e2] X.env = (false, eval e X.env) :: starEach [e2] X.env := by rfl) (hpl : (backTo pos (starEach [e2] X.env)).any (·.1) = false := by rfl) :
    PI X (.Tuple elts kk tpos) (.Call (.Name "zip" p) [e, e2] [] pos) (iZipM X.K ta) := by
  refine ⟨fun pins s σ H R I h => ?_⟩
  refine Call_ (ld_blt I hg hm PyProof.Rows.boot_zip (PyProof.Rows.callWith_type1 (thn (ha.run pos pins s σ H _ I h) fun us s1 ⟨vs, H1, I1, r1, a, b, xs, ys, ex, hqx, hqy, q⟩ => ?_) hs hpl))
  subst ex
  obtain ⟨ua, ub, rfl, ra, rb⟩ := vals2 r1
  cases ra
  cases rb
  obtain ⟨its, rv, p1, _⟩ := I1.list hqx
  obtain ⟨its2, rv2, p2, _⟩ := I1.tuple hqy
  have lb : b < s1.heap.objs.size := by
    obtain ⟨o2, ho2, _⟩ := id p2
    exact Heap.lt_size ho2
  refine call_zipLT p1.isList (show s1.heap.IsTuple b its2.toArray from p2) fun h' hz hTI hTO h1 h2 hk => wpAny_pyIter_zip hz ?_
  have I2 : Inv X pins σ H1 { s1 with heap := h' } := I1.kept (t' := s1.toks) hk
  refine ⟨s1.heap.objs.size + 4, [s1.heap.objs.size + 4, s1.heap.objs.size + 2, s1.heap.objs.size + 3, s1.heap.objs.size, s1.heap.objs.size + 1], _, _, H1, rfl, I2, turn_zipM (PySem.W.ktu_apart s1.heap.objs.size a b p1.lt lb), ⟨hz, hTI, ⟨_, _, hTO⟩, h1, h2⟩, fun c hcm => ?_, q⟩
  have e' : c = s1.heap.objs.size + 4 ∨ c = s1.heap.objs.size + 2 ∨ c = s1.heap.objs.size + 3 ∨ c = s1.heap.objs.size ∨ c = s1.heap.objs.size + 1 := by simpa using hcm
  have hle : s1.heap.objs.size ≤ c := by
    have z : ∃ n, c = s1.heap.objs.size + n := by
      rcases e' with z | z | z | z | z
      · exact ⟨4, z⟩
      · exact ⟨2, z⟩
      · exact ⟨3, z⟩
      · exact ⟨0, z⟩
      · exact ⟨1, z⟩
    obtain ⟨n, z⟩ := z
    rw [z]
    exact Nat.le_add_right _ _
  exact I1.fpOk hle (I1.hok.fresh hle)
section
variable {K : Zx} {β : Bx} {H : Hp}
theorem itd_zm {a b : Addr} {xs ys : List V} {l m : List D} (h : ∀ β' H', Mv β H β' H' → SqL K H' a xs) (h' : SqT K H b ys) (r : Reps K β H xs l) (r' : Reps K β H ys m) : ItD K β H (ItzM K a b) (zipD l m) where
  go := fun β' H' i e hi => by
    rw [zipD_len] at hi
    exact ⟨xs, ys, xs[i]'(by rw [r.length]; omega), ys[i]'(by rw [r'.length]; omega), h β' H' e, e.sqT h', List.getElem?_eq_getElem _, List.getElem?_eq_getElem _⟩
  yld := fun β' H' i x H'' d e hd hy => by
    obtain ⟨T, x1, y1, rfl, nT, rfl, f1, f2⟩ := hy
    obtain ⟨dx, dy, rfl, g1, g2⟩ := zipD_get hd
    obtain ⟨v, hv, rv⟩ := r.get g1
    obtain ⟨v', hv', rv'⟩ := r'.get g2
    have e1 := f1 xs (h β' H' e)
    have e2 := f2 ys (e.sqT h')
    rw [hv] at e1
    rw [hv'] at e2
    have e1 := Option.some.inj e1
    have e2 := Option.some.inj e2
    subst e1 e2
    have e3 := e.trans (Ext.new (β := β') (o := .tup [v, v']) nT).mv
    exact ⟨same_new nT, .tup (.inl (.inl upd_same)) (.cons (Rep.move e3 _ _ rv) (.cons (Rep.move e3 _ _ rv') .nil)) (le1000 (by simp))⟩
  stop := fun β' H' i e hi => by
    rw [zipD_len] at hi
    refine ⟨xs, ys, h β' H' e, e.sqT h', ?_⟩
    rw [r.length, r'.length]
    omega
end
def mZipM : List D → Option (List D)
  | [.lst a, .tup b] => some (zipD a b)
  | _ => none
def gZipM (f : G (List D)) : G (List D) := fun ρ st => (f ρ st).bind fun d s1 => oout (mZipM d) s1
section
variable {X : Cx} {W : WX}
theorem di_zipM {e e2 : Expr} {fs : G (List D)} {elts : List Expr} {kk : Nat} {tpos p pos : Pos} (hg : Gl X "zip") (hm : X.mg "zip" = none) (ha : DA X W [e, e2] fs) (hs : starEach [e, e2] X.env = (false, eval e X.env) :: starEach [e2] X.env := by rfl) (hpl : (backTo pos (starEach [e2] X.env)).any (·.1) = false := by rfl) :
    DI X W (.Tuple elts kk tpos) (.Call (.Name "zip" p) [e, e2] [] pos) (gZipM fs) := by
  refine PImono (pi_zipM hg hm ha hs hpl) fun σ H R h => ?_
  obtain ⟨β, ρ, st, hρ, hs, h⟩ := h
  refine tDA_intro hρ hs (Out.sat_bind h) (fun d s1 h1 v β1 H1 e1 S1 r1 => ?_) fun _ _ q => q
  obtain ⟨l, q, p⟩ := oout_sat h1
  unfold mZipM at q
  split at q
  · rename_i a b
    cases q
    obtain ⟨v, w, rfl, r, r'⟩ := r1.two
    cases r with
    | lst h1 hn h2 h3 =>
      cases r' with
      | tup g1 g2 g3 => exact ⟨_, _, _, _, rfl, SqL.of h1, g1, p _ β1 H1 e1 S1 (itd_zm (fun β' H' e => SqL.of (e.lst _ _ h1 hn).1) g1 h2 g2) (by rw [zipD_len]; omega)⟩
  · cases q
end
end DL

set_option Elab.async false
set_option linter.all false
set_option maxRecDepth 100000
set_option maxHeartbeats 2000000
/-! # itertools.combinations -/
namespace DL
open PySem PySem.Spec L2
open PyProof.Rows hiding St
namespace Co
theorem slot_init : Slot "itertools.combinations" "__init__" "object.__init__" :=
  .of (owner := "object") (n := "__init__") (by rw [typeLookup_type, builtinLookup_eq_fast]; kernel_rfl) (by decide +kernel) (by decide +kernel) (by decide +kernel)
    (by first | exact .inl (by decide +kernel) | exact .inr (by decide +kernel)) (by rw [isSubtype_type]; kernel_rfl)
theorem slot_iter : Slot "itertools.combinations" "__iter__" "itertools.combinations.__iter__" :=
  .of (owner := "itertools.combinations") (n := "__iter__") (by rw [typeLookup_type, builtinLookup_eq_fast]; kernel_rfl) (by decide +kernel) (by decide +kernel) (by decide +kernel)
    (by first | exact .inl (by decide +kernel) | exact .inr (by decide +kernel)) (by rw [isSubtype_type]; kernel_rfl)
theorem slot_next : Slot "itertools.combinations" "__next__" "itertools.combinations.__next__" :=
  .of (owner := "itertools.combinations") (n := "__next__") (by rw [typeLookup_type, builtinLookup_eq_fast]; kernel_rfl) (by decide +kernel) (by decide +kernel) (by decide +kernel)
    (by first | exact .inl (by decide +kernel) | exact .inr (by decide +kernel)) (by rw [isSubtype_type]; kernel_rfl)
theorem mro : mroOf (.type "itertools.combinations") = pure [.type "itertools.combinations", .type "object"] := by rw [mroOf_type]; kernel_rfl
theorem lookup_new : typeLookup (.type "itertools.combinations") "__new__" = pure (some (.builtin "itertools.combinations.__new__")) := by rw [typeLookup_type, builtinLookup_eq_fast]; kernel_rfl
theorem called : TypeCalled "itertools.combinations" "itertools.combinations.__new__" "object.__init__" :=
  ⟨by decide +kernel, by decide +kernel, ⟨_, _, mro⟩, madeBy_type mro lookup_new (by decide +kernel), by decide +kernel, by rw [isSubtype_type]; kernel_rfl, slot_init⟩
theorem typeCall (a b : Value) : checkTypeCall "itertools.combinations" ⟨[a, b], []⟩ = pure () := by kernel_rfl
theorem newCall (a b : Value) : checkBuiltinCall "itertools.combinations.__new__" ⟨[.type "itertools.combinations", a, b], []⟩ = pure () := by kernel_rfl
theorem entry_new : entryFor table "itertools.combinations.__new__" = some Builtin.«itertools.combinations.__new__» := entryFor_of_tree (by kernel_rfl)
theorem entry_next : entryFor table "itertools.combinations.__next__" = some Builtin.«itertools.combinations.__next__» := entryFor_of_tree (by kernel_rfl)
theorem entry_iter : entryFor table "itertools.combinations.__iter__" = some Builtin.«dict_keyiterator.__iter__» :=
  entryFor_alias (id' := "dict_keyiterator.__iter__") (by kernel_rfl) (by first | rfl | decide +kernel | (unfold String.splitOn; simp +decide [String.splitOnAux])) (by decide +kernel) (by kernel_rfl)
theorem sub : isSubtype (.type "itertools.combinations") (.type "itertools.combinations") = pure true := by rw [isSubtype_type]; kernel_rfl
theorem owner : List.lookup (String.ofList ['s', 'n', 'o', 'i', 't', 'a', 'n', 'i', 'b', 'm', 'o', 'c', '.', 's', 'l', 'o', 'o', 't', 'r', 'e', 't', 'i'].reverse) Manifest.owners = some Manifest.sig_itertools_combinations := by kernel_rfl
theorem args_next (a : Value) : argsOk "itertools.combinations.__next__" ⟨[a], []⟩ := by
  unfold argsOk; rw [signature?_of (id := "itertools.combinations.__next__") (n := ['_', '_', 't', 'x', 'e', 'n', '_', '_']) (o := ['s', 'n', 'o', 'i', 't', 'a', 'n', 'i', 'b', 'm', 'o', 'c', '.', 's', 'l', 'o', 'o', 't', 'r', 'e', 't', 'i']) (by kernel_rfl) owner]; kernel_rfl
theorem args_iter (a : Value) : argsOk "itertools.combinations.__iter__" ⟨[a], []⟩ := by
  unfold argsOk; rw [signature?_of (id := "itertools.combinations.__iter__") (n := ['_', '_', 'r', 'e', 't', 'i', '_', '_']) (o := ['s', 'n', 'o', 'i', 't', 'a', 'n', 'i', 'b', 'm', 'o', 'c', '.', 's', 'l', 'o', 'o', 't', 'r', 'e', 't', 'i']) (by kernel_rfl) owner]; kernel_rfl
/-- the choices of r of n places, in their order -/
def cmb : Nat → Nat → List (List Nat)
  | _, 0 => [[]]
  | 0, _ + 1 => []
  | n + 1, r + 1 => (cmb n r).map (fun l => 0 :: l.map (· + 1)) ++ (cmb n (r + 1)).map (fun l => l.map (· + 1))
abbrev CoF (pool : Addr) (n : Int) (res : Value) (idx : List Nat) : Array Value := #[.ref pool, rawInt n, res] ++ (idx.map fun k : Nat => rawInt k).toArray
abbrev IsCo (h : Heap) (z pool : Addr) (n : Int) (res : Value) (idx : List Nat) : Prop := h.get? z = some { cls := .type "itertools.combinations", dict := none, data := .fields (CoF pool n res idx), slots := #[] }
abbrev tupO (vs : List Value) : Obj := { cls := .type "tuple", data := .seq vs.toArray }
theorem nums {pool : Addr} {n : Int} {res : Value} (idx : List Nat) : ((CoF pool n res idx).toList.drop 3).map (fun | .int n _ => n.toNat | _ => 0) = idx := by
  rw [Array.toList_append]
  show (List.map _ ((idx.map fun k : Nat => rawInt k).toArray.toList)) = idx
  rw [List.map_map]
  conv => rhs; rw [← List.map_id idx]
  exact List.map_congr_left fun k _ => Int.toNat_natCast k
section
variable {P : Program} {w : World}
/-- the iterator asked for the first time -/
def Fst (B : Builtin) : Prop := ∀ (P : Program) (w : World) (A : Around) (E : Value → Shared → Prop) (s : Shared) (z pool : Addr) (res : Value) (idx : List Nat) (ys : List Value) (Q : Value → Shared → Prop),
  IsCo s.heap z pool 0 res idx → s.heap.get? pool = some (tupO ys) → z ≠ pool → idx.length ≤ 1000 →
  (∀ h', IsCo h' z pool 1 (.ref s.heap.objs.size) idx → h'.get? s.heap.objs.size = some (tupO (idx.map fun i => ys.getD i .none)) → h'.objs.size = s.heap.objs.size + 1 → (∀ b o, b ≠ z → s.heap.get? b = some o → h'.get? b = some o) → Q (.ref s.heap.objs.size) { s with heap := h' }) →
  wpAny (model P w) A (B ⟨[.ref z], []⟩) (fun fin s' => ∃ v, fin = .done (.ret v) ∧ Q v s') E s
def Nxt (B : Builtin) (f : Nat → List Nat → Option (List Nat)) : Prop := ∀ (P : Program) (w : World) (A : Around) (E : Value → Shared → Prop) (s : Shared) (z pool : Addr) (res : Value) (idx nx : List Nat) (ys : List Value) (Q : Value → Shared → Prop),
  IsCo s.heap z pool 1 res idx → s.heap.get? pool = some (tupO ys) → z ≠ pool → f ys.length idx = some nx → nx.length ≤ 1000 →
  (∀ h', IsCo h' z pool 1 (.ref s.heap.objs.size) nx → h'.get? s.heap.objs.size = some (tupO (nx.map fun i => ys.getD i .none)) → h'.objs.size = s.heap.objs.size + 1 → (∀ b o, b ≠ z → s.heap.get? b = some o → h'.get? b = some o) → Q (.ref s.heap.objs.size) { s with heap := h' }) →
  wpAny (model P w) A (B ⟨[.ref z], []⟩) (fun fin s' => ∃ v, fin = .done (.ret v) ∧ Q v s') E s
def End (B : Builtin) (f : Nat → List Nat → Option (List Nat)) : Prop := ∀ (P : Program) (w : World) (A : Around) (E : Value → Shared → Prop) (s : Shared) (z pool : Addr) (res : Value) (idx : List Nat) (ys : List Value) (Q : PySem.Fin → Shared → Prop),
  A.handled = none → IsCo s.heap z pool 1 res idx → s.heap.get? pool = some (tupO ys) → z ≠ pool → f ys.length idx = none →
  (∀ h' e, (∀ b o, b ≠ z → s.heap.get? b = some o → h'.get? b = some o) → (∃ o, h'.get? e = some o ∧ o.cls = .type "StopIteration") → E (.ref e) { s with heap := h' }) →
  wpAny (model P w) A (B ⟨[.ref z], []⟩) Q E s
end
theorem wp_nums {P : Program} {w : World} {A : Around} {E : Value → Shared → Prop} {s : Shared} {z pool : Addr} {n : Int} {res : Value} {idx : List Nat} {Q : List Nat → Shared → Prop} (h : IsCo s.heap z pool n res idx) (hQ : Q idx s) : wpAny (model P w) A (Builtin.Itertools.itNumbersFrom (.ref z) 3) Q E s := by
  unfold Builtin.Itertools.itNumbersFrom
  refine wpAny_bind (wpAny_load h ?_)
  dsimp only
  refine wpAny_pure ?_
  have e := nums (pool := pool) (n := n) (res := res) idx
  exact e.symm ▸ hQ
theorem wp_pool {P : Program} {w : World} {A : Around} {E : Value → Shared → Prop} {s : Shared} {pool : Addr} {ys : List Value} {Q : Array Value → Shared → Prop} (h : s.heap.get? pool = some (tupO ys)) (hQ : Q ys.toArray s) : wpAny (model P w) A (Builtin.Itertools.itPoolItems (.ref pool)) Q E s := by
  unfold Builtin.Itertools.itPoolItems
  exact wpAny_bind (wpAny_seqItems h rfl (wpAny_pure hQ))
theorem wp_int {P : Program} {w : World} {A : Around} {E : Value → Shared → Prop} {s : Shared} {z pool : Addr} {n : Int} {res : Value} {idx : List Nat} {Q : Int → Shared → Prop} (h : IsCo s.heap z pool n res idx) (hQ : Q n s) : wpAny (model P w) A (Builtin.Itertools.itIntField (.ref z) 1) Q E s := by
  unfold Builtin.Itertools.itIntField
  refine wpAny_bind (wpAny_field h rfl (x := rawInt n) (by simp [CoF]) ?_)
  exact wpAny_pure hQ
theorem wp_setNums {P : Program} {w : World} {A : Around} {E : Value → Shared → Prop} {s : Shared} {z pool : Addr} {n : Int} {res : Value} {idx nx : List Nat} {Q : Unit → Shared → Prop} (h : IsCo s.heap z pool n res idx) (hl : nx.length ≤ 1000)
    (hQ : ∀ h', IsCo h' z pool n res nx → Heap.SameBut z s.heap h' → Q () { s with heap := h' }) : wpAny (model P w) A (Builtin.Itertools.itSetNumbersFrom (.ref z) 3 nx) Q E s := by
  unfold Builtin.Itertools.itSetNumbersFrom
  dsimp only
  have e : (CoF pool n res idx).extract 0 3 ++ (nx.map fun k : Nat => rawInt k).toArray = CoF pool n res nx := by
    congr 1
    apply Array.ext'
    rw [Array.toList_extract, Array.toList_append]
    rfl
  refine wpAny_updateFields h rfl (hQ _ ?_ (Heap.SameBut.update ..)) ?_
  · refine (Heap.get?_update_self (Obj.mapFields fun fs => fs.extract 0 3 ++ (nx.map fun k : Nat => rawInt k).toArray) h rfl).trans ?_
    show some ({ cls := .type "itertools.combinations", dict := none, data := Data.fields ((CoF pool n res idx).extract 0 3 ++ (nx.map fun k : Nat => rawInt k).toArray), slots := #[] } : Obj) = _
    rw [e]
  · rw [e]
    show (#[.ref pool, rawInt n, res] ++ (nx.map fun k : Nat => rawInt k).toArray).size ≤ _
    rw [Array.size_append, List.size_toArray, List.size_toArray, List.length_map, sizeLine_eq]
    show 3 + nx.length ≤ _
    omega
theorem wp_stop {α : Type} {P : Program} {w : World} {A : Around} {E : Value → Shared → Prop} {s : Shared} {Q : α → Shared → Prop} (hh : A.handled = none) (hE : ∀ h' e, (∀ b o, s.heap.get? b = some o → h'.get? b = some o) → (∃ o, h'.get? e = some o ∧ o.cls = .type "StopIteration") → E (.ref e) { s with heap := h' }) :
    wpAny (model P w) A (Builtin.Itertools.itStop (α := α)) Q E s := by
  unfold Builtin.Itertools.itStop
  show wpAny _ _ (newExc (.type "StopIteration") [] >>= _) _ _ _
  refine wpAny_bind ?_
  simp only [newExc, newTuple]
  refine wpAny_bind (wpAny_newObj_type ?_ (by size_fits))
  refine wpAny_bind (m := firstArgMember _ _) (wpAny_of_eq (a := Value.none) (by first | rfl | (simp only [firstArgMember]; rfl)) ?_)
  refine wpAny_newObj_type ?_ (by size_fits)
  simp only [raiseNew]
  refine wpAny_bind (wpAny_handled ?_)
  rw [hh]
  refine wpAny_bind (wpAny_pure (wpAny_throw ?_))
  exact hE _ _ (fun b o e => Heap.get?_push_of_some _ (Heap.get?_push_of_some _ e)) ⟨_, Heap.get?_push_size _ rfl, rfl⟩
theorem wp_tail {P : Program} {w : World} {A : Around} {E : Value → Shared → Prop} {s : Shared} {z pool : Addr} {res v : Value} {idx : List Nat} {Q : Value → Shared → Prop} (hz : IsCo s.heap z pool 1 res idx) (hQ : ∀ h', IsCo h' z pool 1 v idx → Heap.SameBut z s.heap h' → Q v { s with heap := h' }) :
    wpAny (model P w) A (do
      let before ← field (.ref z) 2
      setField (.ref z) 2 v
      letGo [before] [v]
      ret v) (fun fin s' => ∃ v, fin = PySem.Fin.done (.ret v) ∧ Q v s') E s := by
  refine wpAny_bind (wpAny_field hz rfl (x := res) (by simp [CoF]) ?_)
  refine wpAny_bind (wpAny_setField_rec hz (by simp [CoF]) fun h1 z1 s1 => ?_)
  have z1 : IsCo h1 z pool 1 v idx := by
    refine z1.trans ?_
    congr 2
    simp [CoF]
  refine wpAny_bind (wpAny_letGo ?_)
  exact wpAny_pure ⟨v, rfl, hQ h1 z1 s1⟩
theorem split : ∃ (N : (Nat → List Nat → Option (List Nat)) → Builtin) (f : Nat → List Nat → Option (List Nat)), Builtin.«itertools.combinations.__next__» = N f ∧
    (∀ n ≤ 4, ∀ r ≤ n, ∀ i < (cmb n r).length, f n ((cmb n r).getD i []) = (cmb n r)[i + 1]?) ∧ (∀ f, Fst (N f)) ∧ (∀ f, Nxt (N f) f) ∧ (∀ f, End (N f) f) := by
  refine ⟨_, _, rfl, ?_, ?_, ?_, ?_⟩
  · decide +kernel
  · intro f P w A E s z pool res idx ys Q hz hp hne hl hQ
    show wpAny _ _ (field (.ref z) 0 >>= _) _ _ _
    refine wpAny_bind (wpAny_field hz rfl (x := .ref pool) (by simp [CoF]) ?_)
    refine wpAny_bind (wp_nums hz ?_)
    refine wpAny_bind (wp_int hz ?_)
    show wpAny _ _ (setField (.ref z) 1 (rawInt 1) >>= _) _ _ _
    refine wpAny_bind (wpAny_setField_rec hz (by simp [CoF]) fun h1 z1 s1 => ?_)
    have z1 : IsCo h1 z pool 1 res idx := by
      refine z1.trans ?_
      congr 2
      simp [CoF]
    have hp1 : h1.get? pool = some (tupO ys) := (s1.2 _ (Ne.symm hne)).trans hp
    refine wpAny_bind (wpAny_bind (wp_pool (s := { s with heap := h1 }) hp1 (wpAny_newTuple ?_ (by rw [List.length_map, sizeLine_eq]; omega))))
    have hsz : h1.objs.size = s.heap.objs.size := s1.1
    have hzl : z < h1.objs.size := Heap.lt_size z1
    refine wp_tail (res := res) (Heap.get?_push_of_some _ z1) fun h2 z2 s2 => ?_
    have g2 : h2.get? h1.objs.size = some (tupO (idx.map fun i => ys.getD i .none)) := by
      refine (s2.2 _ (Nat.ne_of_gt hzl)).trans ((Heap.get?_push_size _ rfl).trans ?_)
      simp
    have z3 : h2.objs.size = h1.objs.size + 1 := by
      rw [s2.1]
      exact Heap.size_push ..
    show Q (.ref h1.objs.size) _
    rw [hsz]
    refine hQ h2 (by rw [← hsz]; exact z2) (by rw [← hsz]; exact g2) (by rw [z3, hsz]) fun b o hb e => ?_
    exact (s2.2 b hb).trans (Heap.get?_push_of_some _ ((s1.2 b hb).trans e))
  · intro f P w A E s z pool res idx nx ys Q hz hp hne hf hl hQ
    show wpAny _ _ (field (.ref z) 0 >>= _) _ _ _
    refine wpAny_bind (wpAny_field hz rfl (x := .ref pool) (by simp [CoF]) ?_)
    refine wpAny_bind (wp_nums hz ?_)
    refine wpAny_bind (wp_int hz ?_)
    show wpAny _ _ (Builtin.Itertools.itPoolItems (.ref pool) >>= _) _ _ _
    refine wpAny_bind (wp_pool hp ?_)
    rw [List.size_toArray, hf]
    dsimp only
    refine wpAny_bind (wp_setNums hz hl fun h1 z1 s1 => ?_)
    have hp1 : h1.get? pool = some (tupO ys) := (s1.2 _ (Ne.symm hne)).trans hp
    refine wpAny_bind (wpAny_bind (wp_pool (s := { s with heap := h1 }) hp1 (wpAny_newTuple ?_ (by rw [List.length_map, sizeLine_eq]; omega))))
    have hsz : h1.objs.size = s.heap.objs.size := s1.1
    have hzl : z < h1.objs.size := Heap.lt_size z1
    refine wp_tail (res := res) (Heap.get?_push_of_some _ z1) fun h2 z2 s2 => ?_
    have g2 : h2.get? h1.objs.size = some (tupO (nx.map fun i => ys.getD i .none)) := by
      refine (s2.2 _ (Nat.ne_of_gt hzl)).trans ((Heap.get?_push_size _ rfl).trans ?_)
      simp
    have z3 : h2.objs.size = h1.objs.size + 1 := by
      rw [s2.1]
      exact Heap.size_push ..
    show Q (.ref h1.objs.size) _
    rw [hsz]
    refine hQ h2 (by rw [← hsz]; exact z2) (by rw [← hsz]; exact g2) (by rw [z3, hsz]) fun b o hb e => ?_
    exact (s2.2 b hb).trans (Heap.get?_push_of_some _ ((s1.2 b hb).trans e))
  · intro f P w A E s z pool res idx ys Q hh hz hp hne hf hQ
    show wpAny _ _ (field (.ref z) 0 >>= _) _ _ _
    refine wpAny_bind (wpAny_field hz rfl (x := .ref pool) (by simp [CoF]) ?_)
    refine wpAny_bind (wp_nums hz ?_)
    refine wpAny_bind (wp_int hz ?_)
    show wpAny _ _ (Builtin.Itertools.itPoolItems (.ref pool) >>= _) _ _ _
    refine wpAny_bind (wp_pool hp ?_)
    rw [List.size_toArray, hf]
    dsimp only
    refine wpAny_bind (wpAny_setField_rec hz (by simp [CoF]) fun h1 z1 s1 => ?_)
    exact wp_stop (s := { s with heap := h1 }) hh fun h2 e k1 k2 => hQ h2 e (fun b o hb q => k1 b o ((s1.2 b hb).trans q)) k2
abbrev coO (pool : Addr) (r : Nat) : Obj := { cls := .type "itertools.combinations", dict := none, data := .fields (CoF pool 0 .none (List.range r)), slots := #[] }
theorem bindNamed (a b : Value) : Builtin.Itertools.itBindNamed "combinations" ["iterable", "r"] 2 2 [a, b] [] = pure [some a, some b] := by kernel_rfl
theorem appName : ("itertools." ++ "combinations" : String) = "itertools.combinations" := by decide +kernel
theorem noDict : typeHasDict (.type "itertools.combinations") = false := by decide +kernel
theorem meets_new (l : Addr) (xs : Array Value) (r : Nat) (tk : Tok) : Meets (Builtin.«itertools.combinations.__new__» ⟨[.type "itertools.combinations", .ref l, .int r tk], []⟩) (fun _ R s => s.heap.IsList l xs ∧ xs.size ≤ 1000 ∧ r ≤ xs.size ∧
    ∀ h1 : Heap, (∀ b o, s.heap.get? b = some o → h1.get? b = some o) → R (.ok (.ret (.ref (h1.objs.size + 1)))) { s with heap := (h1.push (tupO xs.toList)).push (coO h1.objs.size r) }) :=
  .of_wp fun prog w A R s h => by
    obtain ⟨hp, g, d, tk, os⟩ := s
    obtain ⟨hl1, hx, hr, h⟩ := h
    have hsub := sub
    obtain ⟨o, ho, hc, n, hd⟩ := hl1
    generalize hC : collect = C
    wp_walk
    rw [appName, sub]
    refine wpAny_pure ?_
    wp_walk
    rw [if_neg (by
      rw [Bool.or_eq_true, decide_eq_true_eq, decide_eq_true_eq]
      omega)]
    refine wpAny_pure ?_
    refine wpAny_bind ?_
    subst hC
    refine wpAny_collect_seq (s := ⟨hp, g, d, tk, os⟩) l (.inl rfl) ho hc hd (fun h1 hk => ?_) (by rw [sizeLine_eq]; omega)
    dsimp only
    rw [if_neg (by omega), if_neg (by
      unfold Builtin.Itertools.itTooMany
      rw [decide_eq_true_eq]
      omega)]
    refine wpAny_bind (wpAny_newTuple ?_ (by rw [sizeLine_eq]; simp; omega))
    refine wpAny_pure ?_
    dsimp only
    have hlen : xs.toList.length = xs.size := Array.length_toList
    rw [hlen, Int.toNat_natCast, if_neg (by omega)]
    refine wpAny_bind ?_
    unfold Builtin.Itertools.itNewRecord
    rw [noDict]
    simp only [Bool.not_false, if_true]
    refine wpAny_newObj_type ?_ ?_
    · refine wpAny_pure ⟨_, rfl, ?_⟩
      have q := h h1 hk
      have es : (h1.push (tupO xs.toList)).objs.size = h1.objs.size + 1 := Heap.size_push ..
      have ec : CoF h1.objs.size 0 .none (List.range r) = ([Value.ref h1.objs.size, rawInt 0, Value.none] ++ (List.range r).map fun i : Nat => rawInt i).toArray := by
        apply Array.ext'
        simp [CoF]
      show R (Except.ok (Flow.ret (Value.ref (h1.push (tupO xs.toList)).objs.size))) _
      rw [es]
      unfold coO at q
      rw [ec] at q
      exact q
    · show _ ≤ sizeLine + 2
      rw [sizeLine_eq]
      simp
      omega
section
variable {P : Program} {w : World} {A : Around} {E : Value → Shared → Prop} {s : Shared}
theorem call_co {l : Addr} {xs : Array Value} {r : Nat} {tk : Tok} {Q : Value → Shared → Prop} (hl : s.heap.IsList l xs) (hx : xs.size ≤ 1000) (hr : r ≤ xs.size)
    (h : ∀ h1 : Heap, (∀ b o, s.heap.get? b = some o → h1.get? b = some o) → Q (.ref (h1.objs.size + 1)) { s with heap := (h1.push (tupO xs.toList)).push (coO h1.objs.size r) }) :
    wpAny (model P w) A (call (.type "itertools.combinations") [.ref l, .int r tk]) Q E s := by
  refine callType_new called (by decide) (typeCall _ _) (newCall _ _) (fun obj => F.args_object_init_3 obj _ _) entry_new (meets_new l xs r tk) ⟨hl, hx, hr, fun h1 hk => ?_⟩
  have es : (h1.push (tupO xs.toList)).objs.size = h1.objs.size + 1 := Heap.size_push ..
  exact ⟨⟨_, by rw [← es]; exact Heap.get?_push_size _ rfl, rfl⟩, h h1 hk⟩
theorem pyIter_co {z pool : Addr} {n : Int} {res : Value} {idx : List Nat} {Q : Value → Shared → Prop} (hz : IsCo s.heap z pool n res idx) (h : Q (.ref z) s) : wpAny (model P w) A (pyIter (.ref z)) Q E s := by
  have hT : s.TypeIs (.ref z) "itertools.combinations" := ⟨_, hz, rfl⟩
  refine wpAny_pyIter_slot hT slot_iter (wpAny_call_entry slot_iter hT entry_iter ?_ (args_iter _))
  show wpAny _ _ (ret (.ref z)) _ _ s
  exact wpAny_pure ⟨_, rfl, "itertools.combinations", _, hT, slot_next.lookup, h⟩
theorem next_item {z : Addr} {T0 : Nat} {Q : Option Value → Shared → Prop} (hT : s.TypeIs (.ref z) "itertools.combinations") (h : wpAny (model P w) A.in1 (Builtin.«itertools.combinations.__next__» ⟨[.ref z], []⟩) (fun fin s' => ∃ v, fin = PySem.Fin.done (.ret v) ∧ Q (some v) s') (fun e s' => (∃ b, e = .ref b ∧ ∃ o, s'.heap.get? b = some o ∧ o.cls = .type "StopIteration") ∧ Q none s') s) :
    wpAny (model P w) A (pyNext (.ref z)) Q E s := by
  unfold pyNext
  refine wpAny_bind (wpAny_attempt (wpAny_callSpecial?_slot (name := Str.ofString "__next__") hT slot_next (wpAny_call_entry slot_next hT entry_next (wpAny_mono h (fun fin s' hh => ?_) fun e s' hh => ?_) (args_next _))))
  · obtain ⟨v, rfl, q⟩ := hh
    exact ⟨v, rfl, wpAny_pure q⟩
  · obtain ⟨⟨b, rfl, o, ho, hc⟩, q⟩ := hh
    refine wpAny_bind (wpAny_isInstance (T := "StopIteration") (b := true) ⟨o, ho, hc⟩ isSubtype_stop ?_)
    exact wpAny_pure q
end
/-! ### its walk -/
def ItCo (xs : List V) (cs : List (List Nat)) : It :=
  ⟨fun i _ => i < cs.length, fun i H v H' => ∃ T idx, v = .ref T ∧ H T = none ∧ cs[i]? = some idx ∧ H' = upd H T (.tup (idx.map fun k => xs.getD k .non)), fun i _ => cs.length ≤ i⟩
theorem vals_getD {xs : List V} {ys : List Value} (r : Vals xs ys) (k : Nat) : RelV (xs.getD k .non) (ys.getD k .none) := by
  rw [List.getD_eq_getElem?_getD, List.getD_eq_getElem?_getD]
  cases e : xs[k]? with
  | none =>
    have : ys[k]? = none := by
      rw [List.getElem?_eq_none_iff] at e ⊢
      have := r.length
      omega
    rw [this]
    rfl
  | some x =>
    obtain ⟨u, hu, ru⟩ := r.get e
    rw [hu]
    exact ru
theorem vals_pick {xs : List V} {ys : List Value} (r : Vals xs ys) : ∀ idx : List Nat, Vals (idx.map fun k => xs.getD k .non) (idx.map fun k => ys.getD k .none)
  | [] => .nil
  | k :: idx => .cons (vals_getD r k) (vals_pick r idx)
theorem cmb0 : ∀ n ≤ 4, ∀ r ≤ n, (cmb n r)[0]? = some (List.range r) := by decide +kernel
theorem cmb_len : ∀ n ≤ 4, ∀ r ≤ n, ∀ l ∈ cmb n r, l.length ≤ 4 := by decide +kernel
def tnCo (z pool : Addr) (ys : List Value) (r : Nat) (i : Nat) (h : Heap) : Prop := h.get? pool = some (tupO ys) ∧ ((i = 0 ∧ ∃ res, IsCo h z pool 0 res (List.range r)) ∨ ∃ j res idx, i = j + 1 ∧ (cmb ys.length r)[j]? = some idx ∧ IsCo h z pool 1 res idx)
theorem turn_co {P : Program} {w : World} {K : PySem.W.Frag} {tg : Expr} {z pool : Addr} {xs : List V} {ys : List Value} {r : Nat} (hne : z ≠ pool) (rv : Vals xs ys) (h4 : ys.length ≤ 4) (hr : r ≤ ys.length) :
    Turn P w K tg (ItCo xs (cmb ys.length r)) [z, pool] z (tnCo z pool ys r) where
  mem := by simp
  obj := fun i h st c hc => by
    obtain ⟨hp, st⟩ := st
    have e' : c = z ∨ c = pool := by simpa using hc
    rcases e' with q | q
    · rw [q]
      rcases st with ⟨_, res, hz⟩ | ⟨j, res, idx, _, _, hz⟩
      · exact ⟨_, hz, fun v q => nomatch q⟩
      · exact ⟨_, hz, fun v q => nomatch q⟩
    · rw [q]; exact ⟨_, hp, fun v q => nomatch q⟩
  keep := fun i h h' st k => by
    obtain ⟨hp, st⟩ := st
    refine ⟨k pool (by simp) _ hp, ?_⟩
    rcases st with ⟨e, res, hz⟩ | ⟨j, res, idx, e, e2, hz⟩
    · exact .inl ⟨e, res, k z (by simp) _ hz⟩
    · exact .inr ⟨j, res, idx, e, e2, k z (by simp) _ hz⟩
  item := by
    intro X hP hw hK hc i pins s σ H E I hf st hg
    subst hP hw hK
    obtain ⟨hp, st⟩ := st
    obtain ⟨N, f, eB, hF, hFst, hNxt, hEnd⟩ := split
    have hlt : i < (cmb ys.length r).length := hg
    have hzc : ∃ n res idx, IsCo s.heap z pool n res idx := by
      rcases st with ⟨e, res, hz⟩ | ⟨j, res, idx, e, e2, hz⟩
      · exact ⟨_, _, _, hz⟩
      · exact ⟨_, _, _, hz⟩
    obtain ⟨n0, res0, idx0, hz0⟩ := hzc
    have hzl : z < s.heap.objs.size := Heap.lt_size hz0
    have hpl : pool < s.heap.objs.size := Heap.lt_size hp
    have fin : ∀ (idx : List Nat) (h' : Heap), (cmb ys.length r)[i]? = some idx → IsCo h' z pool 1 (.ref s.heap.objs.size) idx → h'.get? s.heap.objs.size = some (tupO (idx.map fun i => ys.getD i .none)) → h'.objs.size = s.heap.objs.size + 1 → (∀ b o, b ≠ z → s.heap.get? b = some o → h'.get? b = some o) →
        ∃ u, some (Value.ref s.heap.objs.size) = some u ∧ wpAny (model X.prog X.w) X.A (letOwnedTupleGo tg (.ref z) u) (fun _ s2 => ∃ x H', Inv X pins σ H' s2 ∧ RelV x u ∧ (ItCo xs (cmb ys.length r)).yld i H x H' ∧ tnCo z pool ys r (i + 1) s2.heap ∧ ∀ b ∈ [z, pool], H' b = none) E { s with heap := h' } := fun idx h' hi z1 t1 hs1 k1 => by
      refine ⟨_, rfl, go_of (n := "itertools.combinations") z1 rfl rfl (by decide +kernel) ?_⟩
      have hidx : idx.length ≤ 4 := cmb_len _ h4 _ hr _ (List.mem_of_getElem? hi)
      have new : ObjOk X.prog X.w (upd H s.heap.objs.size (.tup (idx.map fun k => xs.getD k .non))) h' s.heap.objs.size (.tup (idx.map fun k => xs.getD k .non)) :=
        ⟨by rw [sizeLine_eq, List.length_map]; omega, idx.map fun k => ys.getD k .none, vals_pick rv idx, ⟨_, t1, rfl, _, rfl⟩⟩
      have I1 : Inv X pins σ (upd H s.heap.objs.size (.tup (idx.map fun k => xs.getD k .non))) { s with heap := h' } :=
        I.turnedNew (t' := s.toks) (ch := [z, pool]) (fun c o hb q => k1 c o (fun q' => hb (by simp [q'])) q) hf (Nat.le_refl _) new
      refine ⟨.ref s.heap.objs.size, _, I1, rfl, ⟨_, idx, rfl, I.hok.fresh (Nat.le_refl _), hi, rfl⟩, ⟨k1 _ _ (Ne.symm hne) hp, .inr ⟨i, _, idx, rfl, hi, z1⟩⟩, fun c hcm => ?_⟩
      have hlt : c < s.heap.objs.size := by
        have e' : c = z ∨ c = pool := by simpa using hcm
        rcases e' with q | q
        · rw [q]; exact hzl
        · rw [q]; exact hpl
      rw [upd_ne (Nat.ne_of_lt hlt)]
      exact (hf c hcm).1
    refine next_item (T0 := 0) ⟨_, hz0, rfl⟩ ?_
    rw [eB]
    rcases st with ⟨e, res, hz⟩ | ⟨j, res, idx, e, e2, hz⟩
    · subst e
      refine hFst f _ _ _ _ s z pool res _ ys _ hz hp hne (by rw [List.length_range]; omega) fun h' z1 t1 hs1 k1 => ?_
      exact fin _ h' (cmb0 _ h4 _ hr) z1 t1 hs1 k1
    · subst e
      have hj : j < (cmb ys.length r).length := (List.getElem?_eq_some_iff.mp e2).1
      have hn := hF _ h4 _ hr j hj
      have hd : (cmb ys.length r).getD j [] = idx := by rw [List.getD_eq_getElem?_getD, e2]; rfl
      rw [hd, List.getElem?_eq_getElem hlt] at hn
      have hm : (cmb ys.length r)[j + 1] ∈ cmb ys.length r := List.getElem_mem hlt
      have hl := cmb_len _ h4 _ hr _ hm
      refine hNxt f _ _ _ _ s z pool res idx _ ys _ hz hp hne hn (by omega) fun h' z1 t1 hs1 k1 => ?_
      exact fin _ h' (List.getElem?_eq_getElem hlt) z1 t1 hs1 k1
  done := by
    intro X hP hw hK hc i pins s σ H E I hf st hg
    subst hP hw hK
    obtain ⟨hp, st⟩ := st
    obtain ⟨N, f, eB, hF, hFst, hNxt, hEnd⟩ := split
    have hge : (cmb ys.length r).length ≤ i := hg
    have h0 := cmb0 _ h4 _ hr
    have hpos : 0 < (cmb ys.length r).length := (List.getElem?_eq_some_iff.mp h0).1
    rcases st with ⟨e, res, hz⟩ | ⟨j, res, idx, e, e2, hz⟩
    · omega
    · subst e
      have hj : j < (cmb ys.length r).length := (List.getElem?_eq_some_iff.mp e2).1
      have hn := hF _ h4 _ hr j hj
      have hd : (cmb ys.length r).getD j [] = idx := by rw [List.getD_eq_getElem?_getD, e2]; rfl
      rw [hd, List.getElem?_eq_none (by omega)] at hn
      refine next_item (T0 := 0) ⟨_, hz, rfl⟩ ?_
      rw [eB]
      refine hEnd f _ _ _ _ s z pool res idx ys _ (I.ok.hd hc) hz hp hne hn fun h' e k1 k2 => ?_
      exact ⟨⟨e, rfl, k2⟩, rfl, I.turnedL (t' := s.toks) (ch := [z, pool]) (fun c o hb q => k1 c o (fun q' => hb (by simp [q'])) q) hf⟩
  self := fun A i s Q E st h => by
    obtain ⟨hp, st⟩ := st
    rcases st with ⟨e, res, hz⟩ | ⟨j, res, idx, e, e2, hz⟩
    · exact pyIter_co hz h
    · exact pyIter_co hz h
end Co
end DL

set_option Elab.async false
set_option linter.all false
set_option maxRecDepth 100000
set_option maxHeartbeats 2000000
/-! # for x in combinations(list, int) -/
namespace DL
open PySem PySem.Spec L2
open PyProof.Rows hiding St
def iCo (K : PySem.W.Frag) (ta : TA) : TI := fun σ H R => ta σ H fun vs H1 => ∃ a xs r, vs = [.ref a, .int (r : Nat)] ∧ SqL K H1 a xs ∧ xs.length ≤ 4 ∧ r ≤ xs.length ∧ R (Co.ItCo xs (Co.cmb xs.length r)) H1
theorem pi_co {X : Cx} {n : Str} {e e2 : Expr} {ta : TA} {p pos : Pos} {tg : Expr} (hg : Gl X n) (hm : X.mg n = some (.type "itertools.combinations")) (ha : PA X [e, e2] ta) (hdb : (n == ("__debug__" : Str)) = false := by decide)
    (hs : starEach [e, e2] X.env = (false, eval e X.env) :: starEach [e2] X.env := by rfl) (hpl : (backTo pos (starEach [e2] X.env)).any (·.1) = false := by rfl) :
    PI X tg (.Call (.Name n p) [e, e2] [] pos) (iCo X.K ta) := by
  refine ⟨fun pins s σ H R I h => ?_⟩
  refine Call_ (ld_glob I hg hm (PyProof.Rows.callWith_type1 (thn (ha.run pos pins s σ H _ I h) fun us s1 ⟨vs, H1, I1, r1, a, xs, r, ex, hqx, h4, hr, q⟩ => ?_) hs hpl) hdb)
  subst ex
  obtain ⟨ua, ub, rfl, ra, rb⟩ := vals2 r1
  cases ra
  obtain ⟨tk, rfl⟩ := rb
  obtain ⟨its, rv, p1, _⟩ := I1.list hqx
  have hlen := rv.length
  refine Co.call_co p1.isList (by simp; omega) (by simp; omega) fun h1 hk => ?_
  have es : (h1.push (Co.tupO its.toArray.toList)).objs.size = h1.objs.size + 1 := Heap.size_push ..
  have gz : ((h1.push (Co.tupO its.toArray.toList)).push (Co.coO h1.objs.size r)).get? (h1.objs.size + 1) = some (Co.coO h1.objs.size r) := by
    rw [← es]
    exact Heap.get?_push_size _ rfl
  have gp : ((h1.push (Co.tupO its.toArray.toList)).push (Co.coO h1.objs.size r)).get? h1.objs.size = some (Co.tupO its) := by
    have := Heap.get?_push_of_some (h := h1.push (Co.tupO its.toArray.toList)) (Co.coO h1.objs.size r) (Heap.get?_push_size h1 rfl)
    simpa using this
  refine Co.pyIter_co gz ?_
  have I2 : Inv X pins σ H1 { s1 with heap := h1 } := I1.kept (t' := s1.toks) hk
  have I3 : Inv X pins σ H1 { s1 with heap := (h1.push (Co.tupO its.toArray.toList)).push (Co.coO h1.objs.size r) } := I2.kept (t' := s1.toks) fun b u e => Heap.get?_push_of_some _ (Heap.get?_push_of_some _ e)
  rw [hlen] at h4 hr q
  refine ⟨h1.objs.size + 1, [h1.objs.size + 1, h1.objs.size], _, _, H1, rfl, I3, Co.turn_co (Nat.succ_ne_self _) rv h4 hr, ⟨gp, .inl ⟨rfl, .none, gz⟩⟩, fun c hcm => ?_, q⟩
  have e' : c = h1.objs.size + 1 ∨ c = h1.objs.size := by simpa using hcm
  have hle : h1.objs.size ≤ c := by
    rcases e' with z | z
    · rw [z]; exact Nat.le_succ _
    · rw [z]; exact Nat.le_refl _
  exact I2.fpOk hle (I2.hok.fresh hle)
def combD (l : List D) (r : Nat) : List D := (Co.cmb l.length r).map fun idx => .tup (idx.map fun k => l.getD k .non)
section
variable {K : Zx} {β : Bx} {H : Hp}
theorem reps_getD {xs : List V} {l : List D} (r : Reps K β H xs l) (k : Nat) : Rep K β H (xs.getD k .non) (l.getD k .non) := by
  rw [List.getD_eq_getElem?_getD, List.getD_eq_getElem?_getD]
  cases e : l[k]? with
  | none =>
    have : xs[k]? = none := by
      rw [List.getElem?_eq_none_iff] at e ⊢
      have := r.length
      omega
    rw [this]
    exact .non
  | some d =>
    obtain ⟨v, hv, rv⟩ := r.get e
    rw [hv]
    exact rv
theorem reps_pick {xs : List V} {l : List D} (r : Reps K β H xs l) : ∀ idx : List Nat, Reps K β H (idx.map fun k => xs.getD k .non) (idx.map fun k => l.getD k .non)
  | [] => .nil
  | k :: idx => .cons (reps_getD r k) (reps_pick r idx)
theorem itd_co {xs : List V} {l : List D} {r : Nat} (h4 : xs.length ≤ 4) (hr : r ≤ xs.length) (rr : Reps K β H xs l) : ItD K β H (Co.ItCo xs (Co.cmb xs.length r)) (combD l r) where
  go := fun β' H' i e hi => by
    unfold combD at hi
    rw [List.length_map, ← rr.length] at hi
    exact hi
  yld := fun β' H' i x H'' d e hd hy => by
    obtain ⟨T, idx, rfl, nT, hi, rfl⟩ := hy
    unfold combD at hd
    rw [List.getElem?_map, ← rr.length, hi] at hd
    cases hd
    have hidx := Co.cmb_len _ h4 _ hr _ (List.mem_of_getElem? hi)
    have e3 := e.trans (Ext.new (β := β') (o := .tup (idx.map fun k => xs.getD k .non)) nT).mv
    refine ⟨same_new nT, .tup (.inl (.inl upd_same)) (reps_pick (Reps.move e3 _ _ rr) idx) (le1000 (by simp; omega))⟩
  stop := fun β' H' i e hi => by
    unfold combD at hi
    rw [List.length_map, ← rr.length] at hi
    exact hi
end
def mComb : List D → Option (List D)
  | [.lst l, .int r] => if l.length ≤ 4 ∧ 0 ≤ r ∧ r ≤ l.length then some (combD l r.toNat) else none
  | _ => none
def gComb (f : G (List D)) : G (List D) := fun ρ st => (f ρ st).bind fun d s1 => oout (mComb d) s1
theorem cmb_many : ∀ n ≤ 4, ∀ r ≤ n, (Co.cmb n r).length ≤ 10 := by decide +kernel
section
variable {X : Cx} {W : WX}
theorem di_comb {n : Str} {e e2 : Expr} {fs : G (List D)} {tg : Expr} {p pos : Pos} (hg : Gl X n) (hm : X.mg n = some (.type "itertools.combinations")) (ha : DA X W [e, e2] fs) (hdb : (n == ("__debug__" : Str)) = false := by decide) (hs : starEach [e, e2] X.env = (false, eval e X.env) :: starEach [e2] X.env := by rfl) (hpl : (backTo pos (starEach [e2] X.env)).any (·.1) = false := by rfl) :
    DI X W tg (.Call (.Name n p) [e, e2] [] pos) (gComb fs) := by
  refine PImono (pi_co hg hm ha hdb hs hpl) fun σ H R h => ?_
  obtain ⟨β, ρ, st, hρ, hs, h⟩ := h
  refine tDA_intro hρ hs (Out.sat_bind h) (fun d s1 h1 v β1 H1 e1 S1 r1 => ?_) fun _ _ q => q
  obtain ⟨l, q, p⟩ := oout_sat h1
  unfold mComb at q
  split at q
  · rename_i a r
    split at q
    · rename_i hh
      cases q
      obtain ⟨v, w, rfl, g1, g2⟩ := r1.two
      cases g2
      cases g1 with
      | lst w1 hn h2 h3 =>
        rename_i xs
        have hl := h2.length
        obtain ⟨k, rfl⟩ : ∃ k : Nat, r = (k : Int) := ⟨r.toNat, (Int.toNat_of_nonneg hh.2.1).symm⟩
        have hk : k ≤ xs.length := by
          have := hh.2.2
          omega
        have h4 : xs.length ≤ 4 := by
          have := hh.1
          omega
        refine ⟨_, xs, k, rfl, SqL.of w1, h4, hk, p _ β1 H1 e1 S1 ?_ ?_⟩
        · rw [Int.toNat_natCast]
          exact itd_co h4 hk h2
        · unfold combD
          rw [List.length_map, Int.toNat_natCast, ← hl, sizeLine_eq]
          have := cmb_many _ h4 _ hk
          omega
    · cases q
  · cases q
end
end DL

set_option Elab.async false
set_option linter.all false
set_option maxRecDepth 100000
set_option maxHeartbeats 4000000
/-! # A tuple none or one time over; stores into written dicts by a pair; list(dict), sorted(ints) -/
namespace DL
open PySem PySem.Spec L2
open PyProof.Rows hiding St
theorem tuple_mul1 (l : Addr) (items : Array Value) (n : Nat) (dd : Option Addr) (sl : Array (Option Value)) (u : Tok) :
    Meets (Builtin.«tuple.__mul__» ⟨[.ref l, .int 1 u], []⟩) (fun _ R s => s.heap.get? l = some { cls := .type "tuple", dict := dd, data := .seq items n, slots := sl } ∧ R (.ok (.ret (Value.ref l))) s) :=
  .of_wp fun prog w A R s h => by
    obtain ⟨hp, g, d, tk, os⟩ := s
    obtain ⟨hl, h⟩ := h
    have f1 := AutoSeq1.idx_int
    have c1 : (items.isEmpty || (1 : Int) == 1) = true := by simp
    wp_walk using wpAny_loadPart' hl
    repeat (first
      | (refine wpAny_ite_false (decide_eq_false (by decide)) ?_; wp_walk using wpAny_loadPart' hl)
      | (refine wpAny_ite_true (decide_eq_true c1) ?_; wp_walk using wpAny_loadPart' hl))
    exact ⟨_, rfl, h⟩
theorem tuple_mul0 (l : Addr) (items : Array Value) (n : Nat) (dd : Option Addr) (sl : Array (Option Value)) (u : Tok) (h0 : items.isEmpty = false) :
    Meets (Builtin.«tuple.__mul__» ⟨[.ref l, .int 0 u], []⟩) (fun _ R s => s.heap.get? l = some { cls := .type "tuple", dict := dd, data := .seq items n, slots := sl } ∧ R (.ok (.ret (Value.ref s.heap.objs.size))) { s with heap := s.heap.push { cls := Value.type "tuple", data := Data.seq #[] }, toks := s.toks }) :=
  .of_wp fun prog w A R s h => by
    obtain ⟨hp, g, d, tk, os⟩ := s
    obtain ⟨hl, h⟩ := h
    have f1 := AutoSeq1.idx_int
    have c1 : (items.isEmpty || (0 : Int) == 1) = false := by rw [h0]; rfl
    have c2 : (decide ((0 : Int) ≤ 0) || items.isEmpty) = true := by simp
    wp_walk using wpAny_loadPart' hl
    repeat (first
      | (refine wpAny_ite_false (decide_eq_false (by decide)) ?_; wp_walk using wpAny_loadPart' hl)
      | (refine wpAny_ite_false (decide_eq_false (by rw [c1]; exact Bool.false_ne_true)) ?_; wp_walk using wpAny_loadPart' hl)
      | (refine wpAny_ite_true (decide_eq_true c2) ?_; wp_walk using wpAny_loadPart' hl))
    exact ⟨_, rfl, h⟩
def rRep01 (K : PySem.W.Frag) : R2 := fun x y H Q => ∃ l k xs, x = .ref l ∧ y = .int k ∧ SqT K H l xs ∧ xs ≠ [] ∧ ((k = 1 ∧ Q (.ref l) H) ∨ (k = 0 ∧ ∀ p, H p = none → Q (.ref p) (upd H p (.tup []))))
abbrev rRepA (K : PySem.W.Frag) : R2 := fun x y H Q => rRepT K x y H Q ∨ rRep01 K x y H Q
section
variable {X : Cx}
theorem op_rep01 : OpR X (binaryOp .Mult) (rRep01 X.K) := by
  intro pins s σ H x y v u Q I rx ry h
  obtain ⟨l, k, xs, rfl, rfl, hT, hne, q⟩ := h
  cases rx
  obtain ⟨t, rfl⟩ := ry
  obtain ⟨its, r, ⟨⟨cls, dd, data, sl⟩, ho, hc, n, hd⟩, hs⟩ := I.tuple hT
  simp only at hc hd
  subst hc hd
  have hi : its.toArray.isEmpty = false := by
    cases its with
    | nil =>
      cases r
      exact absurd rfl hne
    | cons a b => rfl
  rcases q with ⟨rfl, q⟩ | ⟨rfl, q⟩
  · exact wpAny_binaryOp_repeat_ref (T := "tuple") (U := "int") (by decide) ⟨_, ho, rfl⟩ (fun s' => typeIs_int s' _ t) noFill_tuple_mul F.fills_int_mul F.slot_int_rmul repeat_tuple F.slot_int_index.lookup
      (call_meets F.slot_int_rmul (typeIs_int s _ t) F.entry_int_rmul (F.args_int_rmul_2 _ _) (int_rmul_tuple _ t l its.toArray n dd sl)
        ⟨ho, rfl, ⟨_, ho, rfl⟩, call_meets F.slot_tuple_mul ⟨_, ho, rfl⟩ F.entry_tuple_mul (F.args_tuple_mul_2 _ _) (tuple_mul1 l its.toArray n dd sl t) ⟨ho, .ref l, H, I, rfl, q⟩⟩)
  · exact wpAny_binaryOp_repeat_ref (T := "tuple") (U := "int") (by decide) ⟨_, ho, rfl⟩ (fun s' => typeIs_int s' _ t) noFill_tuple_mul F.fills_int_mul F.slot_int_rmul repeat_tuple F.slot_int_index.lookup
      (call_meets F.slot_int_rmul (typeIs_int s _ t) F.entry_int_rmul (F.args_int_rmul_2 _ _) (int_rmul_tuple _ t l its.toArray n dd sl)
        ⟨ho, rfl, ⟨_, ho, rfl⟩, call_meets F.slot_tuple_mul ⟨_, ho, rfl⟩ F.entry_tuple_mul (F.args_tuple_mul_2 _ _) (tuple_mul0 l its.toArray n dd sl t hi) ⟨ho,
          .ref s.heap.objs.size, _, I.laid (t' := s.toks) (o := .tup []) (fun b ob q => Heap.get?_push_of_some _ q) (Nat.le_refl _) ⟨by show 0 ≤ sizeLine; exact Nat.zero_le _, [], .nil, IsTup.new _ _⟩, rfl, q _ (I.hok.fresh (Nat.le_refl _))⟩⟩)
theorem or_repA : OpR X (binaryOp .Mult) (rRepA X.K) := op_repT.or op_rep01
end
def mRepA : D → D → Sto → Option D
  | .tup l, .int k, _ => if l ≠ [] ∧ 0 ≤ k ∧ k ≤ 1000 ∧ l.length ≤ 1000 then some (.tup (List.replicate k.toNat l).flatten) else none
  | _, _, _ => none
theorem od_repA {K : Zx} : OpD K (rRepA K) mRepA := by
  intro β H st x y dx dy d Q rx ry S e q
  by_cases h2 : mRep dx dy st = some d
  · exact .inl (od_rep β H st x y dx dy d Q rx ry S h2 q)
  · cases dx <;> cases dy <;> simp only [mRepA, reduceCtorEq] at e
    case tup.int l k =>
      split at e
      · rename_i hz
        obtain ⟨h0, h1, h3, h4⟩ := hz
        have e := Option.some.inj e
        subst e
        have hk : k = 0 ∨ k = 1 := by
          refine Classical.byContradiction fun z => h2 ?_
          show (if l ≠ [] ∧ 2 ≤ k ∧ k ≤ 1000 ∧ l.length ≤ 1000 then _ else _) = _
          rw [if_pos ⟨h0, by omega, h3, h4⟩]
        cases ry
        cases rx with
        | tup hT r hl =>
          have hne : ∀ {xs : List V}, Reps K β H xs l → xs ≠ [] := fun r z => by
            subst z
            cases r
            exact h0 rfl
          rcases hk with rfl | rfl
          · exact .inr ⟨_, 0, _, rfl, rfl, hT, hne r, .inr ⟨rfl, fun p hp => q _ _ (same_new hp) (.tup (.inl (.inl upd_same)) .nil (Nat.zero_le _))⟩⟩
          · refine .inr ⟨_, 1, _, rfl, rfl, hT, hne r, .inl ⟨rfl, q _ _ (Same.refl H) ?_⟩⟩
            have e1 : (List.replicate (Int.toNat 1) l).flatten = l := by simp
            rw [e1]
            exact .tup hT r hl
      · cases e
/-! ### d1["a"], d2["b"] = x, y -/
def rSetD : V → V → V → Hp → (Hp → Prop) → Prop := fun x y v H Q => ∃ a H', x = .ref a ∧ DPut H a y v H' ∧ Q H'
theorem set_dict {X : Cx} (hu : X.A.units + 1 < cLine) : PSet X rSetD := by
  intro pins s σ H o i v ov iv u Q I ro ri rv h
  obtain ⟨a, H', rfl, g, q⟩ := h
  cases ro
  exact d_setItem hu I g ri rv fun s4 I4 => ⟨H', I4, q⟩
def put1 (fo : G D) (k : Str) (v : D) : Env → Sto → Out Unit := fun ρ st => (fo ρ st).bind fun o s2 => match dKAt o s2 with
  | some (n, kvs) => if kvs.length < 1000 then .ok () (s2.set n (.dK (putKD kvs (.inr k) v))) else .bad
  | none => .bad
def sPut2K (f1 : G D) (k1 : Str) (f2 : G D) (k2 : Str) (f : G D) : G Fl := fun ρ st => (f ρ st).bind fun d s1 => match d with
  | .tup [a, b] => (put1 f1 k1 a ρ s1).bind fun _ s2 => (put1 f2 k2 b ρ s2).bind fun _ s3 => .ok (.nx ρ) s3
  | _ => .bad
section
variable {X : Cx} {W : WX} {pos : Pos} {o1 o2 e : Expr} {f1 f2 f : G D} {k : Nat}
theorem put1_ok {fo : G D} {x : Str} {σ : L2.St} {β : Bx} {H : Hp} {ρ : Env} {st : Sto} {v : V} {d : D} {P : Unit → Sto → Prop} {E : Exn → Sto → Prop} {R : Hp → Prop} (hρ : RepEnv (zOf X) β H σ ρ) (hs : StoOk (zOf X) β H st) (rv : Rep (zOf X) β H v d) (h : (put1 fo x d ρ st).sat P E)
    (hP : ∀ st' β' H', P () st' → Ext β H β' H' → StoOk (zOf X) β' H' st' → R H') (hE : ∀ y s, E y s → PostX (zOf X) X.mg (fun c d H' => W c d σ H') β H y s) :
    tD (zOf X) X.mg W fo σ H fun x1 H1 => tC (.str x) σ H1 fun y1 H2 => rSetD x1 y1 v H2 R := by
  refine tD_intro hρ hs (Out.sat_bind h) (fun d_o s2 h2 vo β2 H2 e2 S2 r2 => ?_) fun _ _ q => hE _ _ q
  show rSetD _ _ _ _ _
  split at h2
  · rename_i n kvs hd
    split at h2
    · rename_i hz
      obtain ⟨rfl, hst, a, vs, rfl, hm, hH, ek, rr⟩ := dKAt_ok hd r2 S2
      have hl : vs.length = kvs.length := by
        have := congrArg List.length ek
        simpa using this
      refine ⟨a, _, rfl, .k (k := (.inr x : Key)) hH (by rw [hl, sizeLine_eq]; omega), ?_⟩
      have ew : Ext β2 H2 β2 (upd H2 a (.dK (putK vs (.inr x : Key) v))) := Ext.write hm hH (fun _ z => by cases z) (fun _ _ z => by cases z) (fun _ _ z => by unfold LamX.CodeO at z; cases z) (fun _ z => by cases z)
      obtain ⟨p1, p2⟩ := putK_rel (k := (.inr x : Key)) (Rep.ext (e2.trans ew) _ _ rv) ek (Reps.ext ew _ _ rr)
      have p3 : (putK vs (.inr x : Key) v).length = (putKD kvs (.inr x : Key) d).length := by
        have := congrArg List.length p1
        simpa using this
      exact hP _ β2 _ h2 (e2.trans ew) (S2.write hm ew ⟨_, upd_same, p3, p1, p2⟩)
    · exact h2.elim
  · exact h2.elim
theorem ds_put2K {k1 k2 : Str} {j1 j2 kt : Nat} {q1 q2 t1 t2 tp : Pos} (hr : Room k X.A) (hc : X.calm = true) (he : DE X W e f) (h1 : DE X W o1 f1) (h2 : DE X W o2 f2)
    (ha1 : ∀ v, assign (.Subscript o1 (.Constant (.str k1) j1 q1) t1) X.env v = (do
      let ov ← holding [v] (eval o1 X.env)
      let iv ← holding [v, ov] (eval (.Constant (.str k1) j1 q1) X.env)
      standAt t1
      holding [v, ov, iv] (setItem ov iv v)
      release [v, ov, iv] []) := by intro _; rfl)
    (ha2 : ∀ v, assign (.Subscript o2 (.Constant (.str k2) j2 q2) t2) X.env v = (do
      let ov ← holding [v] (eval o2 X.env)
      let iv ← holding [v, ov] (eval (.Constant (.str k2) j2 q2) X.env)
      standAt t2
      holding [v, ov, iv] (setItem ov iv v)
      release [v, ov, iv] []) := by intro _; rfl)
    (hs : swapsWithSole [.Tuple [.Subscript o1 (.Constant (.str k1) j1 q1) t1, .Subscript o2 (.Constant (.str k2) j2 q2) t2] kt tp] e pos.line X.env = pure false := by rfl)
    (hw : swappedStores [.Tuple [.Subscript o1 (.Constant (.str k1) j1 q1) t1, .Subscript o2 (.Constant (.str k2) j2 q2) t2] kt tp] e X.env = pure none := by rfl)
    (h1' : (assignEach [.Tuple [.Subscript o1 (.Constant (.str k1) j1 q1) t1, .Subscript o2 (.Constant (.str k2) j2 q2) t2] kt tp] X.env).map (·.2) = [assign (.Tuple [.Subscript o1 (.Constant (.str k1) j1 q1) t1, .Subscript o2 (.Constant (.str k2) j2 q2) t2] kt tp) X.env] := by rfl)
    (hn : (assignEach [.Subscript o1 (.Constant (.str k1) j1 q1) t1, .Subscript o2 (.Constant (.str k2) j2 q2) t2] X.env).length = 2 := by rfl)
    (hst : (assignEach [.Subscript o1 (.Constant (.str k1) j1 q1) t1, .Subscript o2 (.Constant (.str k2) j2 q2) t2] X.env).findIdx? (·.1) = none := by rfl) :
    DS X W (.Assign [.Tuple [.Subscript o1 (.Constant (.str k1) j1 q1) t1, .Subscript o2 (.Constant (.str k2) j2 q2) t2] kt tp] e pos) (sPut2K f1 k1 f2 k2 f) := by
  have hu := hu_of hr
  refine PSmono (ps_asg he (pg_tup hc (pgs_cons (pg_sub h1 pe_str (set_dict hu) ha1) (pgs_cons (pg_sub h2 pe_str (set_dict hu) ha2) pgs_nil)) hn hst) hs hw h1') fun D' σ H h => ?_
  obtain ⟨β, ρ, st, hρ, hs, h⟩ := h
  refine tD_intro hρ hs (Out.sat_bind h) (fun d s1 h1 v β1 H1 e1 S1 r1 => ?_) fun _ _ q => xs_x q
  split at h1
  · rename_i a b
    cases r1 with
    | tup hT rr hl =>
      obtain ⟨va, vb, rfl, ra, rb⟩ := rr.two
      refine ⟨_, _, rfl, hT, rfl, va, [vb], rfl, ?_⟩
      refine put1_ok (hρ.ext e1) S1 ra (Out.sat_bind h1) (fun s2 β2 H2 h2 e2 S2 => ?_) fun _ _ q => (xs_x q).ext e1
      refine ⟨vb, [], rfl, ?_⟩
      refine put1_ok ((hρ.ext e1).ext e2) S2 (Rep.ext e2 _ _ rb) (Out.sat_bind h2) (fun s3 β3 H3 h3 e3 S3 => ?_) fun _ _ q => ((xs_x q).ext e1).ext e2
      exact ⟨rfl, h3 σ β3 H3 ((e1.trans e2).trans e3) S3 (((hρ.ext e1).ext e2).ext e3)⟩
  · exact h1.elim
end
/-! ### list(a dict), sorted(ints) -/
def kD : Key → D
  | .inl i => .int i
  | .inr x => .str x
theorem kD_rep {K : Zx} {β : Bx} {H : Hp} : ∀ k : Key, Rep K β H (kV k) (kD k)
  | .inl i => .int i
  | .inr x => .str x
theorem kDs_rep {K : Zx} {β : Bx} {H : Hp} : ∀ ks : List Key, Reps K β H (ks.map kV) (ks.map kD)
  | [] => .nil
  | k :: ks => .cons (kD_rep k) (kDs_rep ks)
def mListK : List D → Sto → Option D
  | [o], st => match dKAt o st with
    | some (_, kvs) => if kvs.length ≤ 1000 then some (.lst ((kvs.map (·.1)).map kD)) else none
    | none => none
  | _, _ => none
theorem cd_listK {K : Zx} : CallD K L2.rListD mListK := by
  intro β H st xs ds d Q r S e q
  match ds, r with
  | [], _ => cases e
  | _ :: _ :: _, _ => cases e
  | [o], r =>
    obtain ⟨v, rfl, r1⟩ := r.one
    have e : (match dKAt o st with
      | some (_, kvs) => if kvs.length ≤ 1000 then some (D.lst ((kvs.map (·.1)).map kD)) else none
      | none => none) = some d := e
    cases hd : dKAt o st with
    | none => rw [hd] at e; cases e
    | some z =>
      obtain ⟨n, kvs⟩ := z
      rw [hd] at e
      have e : (if kvs.length ≤ 1000 then some (D.lst ((kvs.map (·.1)).map kD)) else none) = some d := e
      by_cases hz : kvs.length ≤ 1000
      · rw [if_pos hz] at e
        cases e
        obtain ⟨rfl, hst, a, vs, rfl, hm, hH, ek, rr⟩ := dKAt_ok hd r1 S
        refine ⟨a, vs, rfl, hH, fun p hp => q _ _ (same_new hp) (.lst upd_same (S.nmem hp) ?_ (by rw [List.length_map, List.length_map, sizeLine_eq]; omega))⟩
        have e1 : (vs.map fun kv => kV kv.1) = (kvs.map (·.1)).map kV := by rw [← ek, List.map_map]; rfl
        rw [e1]
        exact kDs_rep _
      · rw [if_neg hz] at e
        cases e
def insI (i : Int) : List Int → List Int
  | [] => [i]
  | j :: r => if i ≤ j then i :: j :: r else j :: insI i r
def sortI : List Int → List Int
  | [] => []
  | i :: r => insI i (sortI r)
theorem insI_perm (i : Int) : ∀ l : List Int, (insI i l).Perm (i :: l)
  | [] => .refl _
  | j :: r => by
    unfold insI
    split
    · exact .refl _
    · exact ((insI_perm i r).cons j).trans (.swap i j r)
theorem sortI_perm : ∀ l : List Int, (sortI l).Perm l
  | [] => .refl _
  | i :: r => (insI_perm i (sortI r)).trans ((sortI_perm r).cons i)
theorem insI_sorted (i : Int) : ∀ l : List Int, l.Pairwise (· ≤ ·) → (insI i l).Pairwise (· ≤ ·)
  | [], _ => List.pairwise_singleton _ _
  | j :: r, h => by
    have h0 := h
    rw [List.pairwise_cons] at h
    unfold insI
    split
    · rename_i hij
      rw [List.pairwise_cons]
      refine ⟨fun z hz => ?_, h0⟩
      rcases List.mem_cons.mp hz with e | hz
      · rw [e]
        exact hij
      · exact Int.le_trans hij (h.1 z hz)
    · rename_i hij
      rw [List.pairwise_cons]
      refine ⟨fun z hz => ?_, insI_sorted i r h.2⟩
      rcases List.mem_cons.mp ((insI_perm i r).mem_iff.mp hz) with e | hz
      · rw [e]
        omega
      · exact h.1 z hz
theorem sortI_sorted : ∀ l : List Int, (sortI l).Pairwise (· ≤ ·)
  | [] => .nil
  | i :: r => insI_sorted i _ (sortI_sorted r)
def intsOf : List D → Option (List Int)
  | [] => some []
  | .int i :: r => (intsOf r).map (i :: ·)
  | _ => none
theorem intsOf_eq : ∀ {l : List D} {ns : List Int}, intsOf l = some ns → l = ns.map D.int
  | [], ns, h => by cases h; rfl
  | d :: r, ns, h => by
    cases d <;> simp only [intsOf, reduceCtorEq, Option.map_eq_some_iff] at h
    obtain ⟨m, h1, rfl⟩ := h
    rw [intsOf_eq h1]
    rfl
theorem reps_intsV {K : Zx} {β : Bx} {H : Hp} : ∀ {ns : List Int} {xs : List V}, Reps K β H xs (ns.map D.int) → xs = ns.map V.int
  | [], xs, r => by cases r; rfl
  | n :: ns, xs, r => by
    cases r with
    | cons r1 r2 =>
      cases r1
      rw [reps_intsV r2]
      rfl
def mSortI : List D → Sto → Option D
  | [.lst l], _ => (intsOf l).map fun ns => .lst ((sortI ns).map D.int)
  | _, _ => none
theorem cd_sortI {K : Zx} : CallD K (rSortedI K) mSortI := by
  intro β H st xs ds d Q r S e q
  match ds, r, e with
  | [.lst l], r, e =>
    obtain ⟨v, rfl, r1⟩ := r.one
    simp only [mSortI, Option.map_eq_some_iff] at e
    obtain ⟨ns, hn, rfl⟩ := e
    have el := intsOf_eq hn
    subst el
    cases r1 with
    | lst h1 hn' h2 h3 =>
      have ex := reps_intsV h2
      subst ex
      refine ⟨_, ns, rfl, SqL.of h1, fun ns' p hp hs hf => ?_⟩
      have e1 : ns' = sortI ns := List.Perm.eq_of_pairwise (le := (· ≤ ·)) (fun a b _ _ h1 h2 => Int.le_antisymm h1 h2) hs (sortI_sorted ns) (hp.trans (sortI_perm ns).symm)
      subst e1
      refine q _ _ (same_new hf) (.lst upd_same (S.nmem hf) (reps_ints _) ?_)
      rw [List.length_map, (sortI_perm ns).length_eq]
      rw [List.length_map] at h3
      exact h3
/-! ### a try whose clause tells whether the error is of a class -/
section
variable {Y : Cx} {i : Nat} {a : Addr} {pos : Pos}
theorem se_bl {b : Bool} {j : Nat} : SE Y i a (.Constant (.bool b) j pos) (.bl b) := PEmono pe_bl fun _ _ _ h => h.2
end
end DL

set_option Elab.async false
set_option linter.all false
set_option maxRecDepth 100000
set_option maxHeartbeats 2000000
/-! # A law's end, several defs' tables told -/
namespace DL
open PySem PySem.Spec L2
open PyProof.Rows hiding St
open LamX hiding takes0
/-- the tables of the defs named ns are empty -/
def OwnTabs (K : PySem.W.Frag) (mg : Str → Option Value) (ns : List Str) (h : Heap) : Prop := ∀ x ∈ ns, ∀ f : Addr, mg x = some (.ref f) → OwnTab K f h
theorem walk_ofTabs {l : PySem.W.OpenLaw} {n k : Nat} {q : Program} {loose : List Str} {XP : (Str → Option Value) → Heap → Prop} {YP : World → Heap → Prop} {d : DefRec} {K : Params → PySem.W.Frag} {CX : World → CXT} {x : Str} (ns : List Str)
    (hn : l.most = some n) (hn2 : n ≤ sizeLine) (hdf : d.params.defaults = []) (hr : Room k callerA) (hrec : (ns.all fun y => (recsOf q).any fun e => e.name == y) = true) (hY : ∀ (w : World) (h : Heap), YP w h → (K w.params).In h)
    (F : ∀ (w : World) (mg : Str → Option Value) (fa : Addr) (h : Heap), YP w h → (K w.params).In h → h.Ns mainGlobals mg → mg d.name = some (.ref fa) → OwnTabs (K w.params) mg ns h → LawAtS l w (K w.params) (CX w) k n x mg fa h)
    (hCX : ∀ (w : World) (H : Hp) (s : Shared) (e : Value) (s' : Shared), CX w [] H s (fun _ _ _ => False) e s' → False) :
    PySem.W.WalkO q loose XP YP l.row.toRowW d [] (fun f vs => PySem.call f vs) := by
  refine Att.attach_callB hn hdf fun w s₀ s₁ mg mb fa o pm cd doc a vs ns' G Y ho hd hcd hmg hobj hints hlen hbits hg => ?_
  have KX := hY w _ Y
  have own : OwnTabs (K w.params) mg ns s₁.heap := fun y hy f hf c P o1 fd1 e dd vs1 sl k1 k2 k3 k4 k5 => by
    obtain ⟨dL, hm, hn1⟩ := List.any_eq_true.mp (List.all_eq_true.mp hrec y hy)
    have hn2 : dL.name = y := beq_iff_eq.mp hn1
    obtain ⟨a', o', fd', c', P', h1, h2, h3, h4, h5, h6⟩ := G.T.tab dL hm
    rw [hn2, hf] at h1
    cases h1
    have g1 := KX _ _ k1
    rw [g1] at h2
    cases h2
    rw [k2] at h3
    cases h3
    rw [k3] at h4
    cases h4
    obtain ⟨⟨oc, vc, e1, _, e3, e4⟩, hP⟩ := h6
    have g2 := KX _ _ k4
    rw [g2] at e1
    cases e1
    cases e3
    rw [k5] at e4
    cases e4
    exact hP
  obtain ⟨fd, cs, sp, hT, nT, C, hb, hsp, hF⟩ := F w mg fa _ Y KX G.T.g hmg own
  exact law_callTs KX G.T.g G.T.b G.T.builtins G.T.nolimit hg hT nT C G.T.bmain hobj hints (Nat.le_trans hlen hn2) hr hF hb (fun H hH hS => hsp H a ns' hlen hbits hH hS) fun H e s' => hCX w H s₁ e s'
end DL

set_option Elab.async false
set_option linter.all false
set_option maxRecDepth 100000
set_option maxHeartbeats 2000000
/-! # Rows for simp: lambdas handed on, dicts by texts and ints, new lists -/
namespace DL
open PySem PySem.Spec L2
open PyProof.Rows hiding St
section
variable {ρ : Env} {st s1 s2 : Sto} {d e v x : D} {l : List D} {n : Nat} {f g fo fi fv fx fe : G D} {fs : G (List D)} {m : D → D → Sto → Option (List D)} {kvs : List (Key × D)} {k : Key}
def cloOut (gb : G D) (caps ds : List D) (s1 : Sto) : Out D := (gb ((caps ++ ds).map some) s1).nox
theorem clo_at {i : Nat} {tab : List (Str × G D)} {q : Str} {caps : List D} {gb : G D} (h : ρ[i]? = some (some (.clo q caps))) (ht : tab.lookup q = some gb) : gClo i tab fs ρ st = (fs ρ st).bind (cloOut gb caps) := by
  unfold gClo
  rw [h]
  simp only [ht]
  rfl
def lamOut (d : Str) (is : List Nat) (m : List D → Sto → Out D) (ρ : Env) (a : D) (s1 : Sto) : Out D := match capsAt is ρ with
  | some cs => if s1.any (SO.isTab d) = true then (match m [a, .clo d cs] s1 with
    | .ok r s2 => if r.cf = true ∧ Cf s2 then .ok r s2 else .bad
    | _ => .bad) else .bad
  | none => .bad
@[simp] theorem e_LamArg {q : Str} {is : List Nat} {mm : List D → Sto → Out D} : gLamArg q is mm fe ρ st = (fe ρ st).bind (lamOut q is mm ρ) := rfl
theorem lam_at {q : Str} {is : List Nat} {mm : List D → Sto → Out D} {cs : List D} {r : D} (h1 : capsAt is ρ = some cs) (h2 : st.any (SO.isTab q) = true) (h3 : mm [d, .clo q cs] st = .ok r s2) (h4 : r.cf = true) (h5 : Cf s2) : lamOut q is mm ρ d st = .ok r s2 := by
  unfold lamOut
  rw [h1]
  simp only [h2, h3, if_true]
  rw [if_pos ⟨h4, h5⟩]
def newOut (o : Option (List D)) (s2 : Sto) : Out D := match o with
  | some l => .ok (.ref s2.length) (s2 ++ [.lst l])
  | none => .bad
@[simp] theorem e_newOut : newOut (some l) st = .ok (.ref st.length) (st ++ [.lst l]) := rfl
@[simp] def kOpN2 (m : D → D → Sto → Option (List D)) (d e : D) (s2 : Sto) : Out D := newOut (m d e s2) s2
@[simp] def kOpN (m : D → D → Sto → Option (List D)) (g : G D) (ρ : Env) (d : D) (s1 : Sto) : Out D := (g ρ s1).bind (kOpN2 m d)
@[simp] theorem e_OpN : gOpN m f g ρ st = (f ρ st).bind (kOpN m g ρ) := rfl
@[simp] def kCBN (m : List D → Sto → Option (List D)) (ds : List D) (s1 : Sto) : Out D := newOut (m ds s1) s1
@[simp] theorem e_CBN {m : List D → Sto → Option (List D)} : gCBN m fs ρ st = (fs ρ st).bind (kCBN m) := rfl
@[simp] theorem o_ln1 : mListN [.tup l] st = some l := rfl
@[simp] theorem o_ln2 : mListN [.lst l] st = some l := rfl
@[simp] theorem o_rn {i : Int} : mRepN (.lst l) (.int i) st = if 0 ≤ i ∧ i ≤ 1000 ∧ l.length ≤ 1000 then some (List.replicate i.toNat l).flatten else none := rfl
@[simp] theorem o_ra {i : Int} : mRepA (.tup l) (.int i) st = if l ≠ [] ∧ 0 ≤ i ∧ i ≤ 1000 ∧ l.length ≤ 1000 then some (.tup (List.replicate i.toNat l).flatten) else none := rfl
theorem dk_at (h : st[n]? = some (.dK kvs)) : dKAt (.ref n) st = some (n, kvs) := by
  simp only [dKAt, h]
theorem ixK_s {z : Str} (h : st[n]? = some (.dK kvs)) : mIxK (.ref n) (.str z) st = luK kvs (.inr z) := by
  simp only [mIxK, dk_at h, keyK]
theorem ixK_i {i : Int} (h : st[n]? = some (.dK kvs)) : mIxK (.ref n) (.int i) st = luK kvs (.inl i) := by
  simp only [mIxK, dk_at h, keyK]
def getKOut (o i x : D) (s3 : Sto) : Out D := match dKAt o s3, keyK i with
  | some (_, kvs), some k => .ok ((luK kvs k).getD x) s3
  | _, _ => .bad
@[simp] def kGet3 (o i x : D) (s3 : Sto) : Out D := getKOut o i x s3
@[simp] def kGet2 (fx : G D) (ρ : Env) (o i : D) (s2 : Sto) : Out D := (fx ρ s2).bind (kGet3 o i)
def kGet1 (fi fx : G D) (ρ : Env) (o : D) (s1 : Sto) : Out D := match dKAt o s1 with
  | none => .bad
  | some _ => (fi ρ s1).bind (kGet2 fx ρ o)
@[simp] theorem e_GetK : gGetK fo fi fx ρ st = (fo ρ st).bind (kGet1 fi fx ρ) := rfl
theorem get1_at (h : st[n]? = some (.dK kvs)) : kGet1 fi fx ρ (.ref n) st = (fi ρ st).bind (kGet2 fx ρ (.ref n)) := by
  simp only [kGet1, dk_at h]
theorem getK_i {i : Int} (h : st[n]? = some (.dK kvs)) : getKOut (.ref n) (.int i) x st = .ok ((luK kvs (.inl i)).getD x) st := by
  simp only [getKOut, dk_at h, keyK]
def putKOut (o i v : D) (ρ : Env) (s3 : Sto) : Out Fl := match dKAt o s3, keyK i with
  | some (n, kvs), some k => if kvs.length < 1000 then .ok (.nx ρ) (s3.set n (.dK (putKD kvs k v))) else .bad
  | _, _ => .bad
@[simp] def kPutK3 (ρ : Env) (v o i : D) (s3 : Sto) : Out Fl := putKOut o i v ρ s3
@[simp] def kPutK2 (fi : G D) (ρ : Env) (v o : D) (s2 : Sto) : Out Fl := (fi ρ s2).bind (kPutK3 ρ v o)
@[simp] def kPutK1 (fo fi : G D) (ρ : Env) (v : D) (s1 : Sto) : Out Fl := (fo ρ s1).bind (kPutK2 fi ρ v)
@[simp] theorem e_sPutK : sPutK fo fi fv ρ st = (fv ρ st).bind (kPutK1 fo fi ρ) := rfl
theorem putK_i {i : Int} (h : st[n]? = some (.dK kvs)) (hl : kvs.length < 1000) : putKOut (.ref n) (.int i) v ρ st = .ok (.nx ρ) (st.set n (.dK (putKD kvs (.inl i) v))) := by
  simp only [putKOut, dk_at h, keyK, if_pos hl]
theorem putK_s {z : Str} (h : st[n]? = some (.dK kvs)) (hl : kvs.length < 1000) : putKOut (.ref n) (.str z) v ρ st = .ok (.nx ρ) (st.set n (.dK (putKD kvs (.inr z) v))) := by
  simp only [putKOut, dk_at h, keyK, if_pos hl]
def put1Out (z : Str) (v o : D) (s2 : Sto) : Out Unit := match dKAt o s2 with
  | some (n, kvs) => if kvs.length < 1000 then .ok () (s2.set n (.dK (putKD kvs (.inr z) v))) else .bad
  | none => .bad
@[simp] theorem e_put1 {z : Str} : put1 fo z v ρ st = (fo ρ st).bind (put1Out z v) := rfl
theorem put1_at {z : Str} (h : st[n]? = some (.dK kvs)) (hl : kvs.length < 1000) : put1Out z v (.ref n) st = .ok () (st.set n (.dK (putKD kvs (.inr z) v))) := by
  simp only [put1Out, dk_at h, if_pos hl]
def k2K3 (ρ : Env) (_ : Unit) (s3 : Sto) : Out Fl := .ok (.nx ρ) s3
def k2K2 (f2 : G D) (k2 : Str) (b : D) (ρ : Env) (_ : Unit) (s2 : Sto) : Out Fl := (put1 f2 k2 b ρ s2).bind (k2K3 ρ)
def k2K1 (f1 : G D) (k1 : Str) (f2 : G D) (k2 : Str) (ρ : Env) (d : D) (s1 : Sto) : Out Fl := match d with
  | .tup [a, b] => (put1 f1 k1 a ρ s1).bind (k2K2 f2 k2 b ρ)
  | _ => .bad
@[simp] theorem e_k2K3 {u : Unit} : k2K3 ρ u st = .ok (.nx ρ) st := rfl
@[simp] theorem e_k2K2 {f2 : G D} {k2 : Str} {u : Unit} : k2K2 f2 k2 e ρ u st = (put1 f2 k2 e ρ st).bind (k2K3 ρ) := rfl
@[simp] theorem e_k2K1 {f1 f2 : G D} {k1 k2 : Str} : k2K1 f1 k1 f2 k2 ρ (.tup [d, e]) st = (put1 f1 k1 d ρ st).bind (k2K2 f2 k2 e ρ) := rfl
@[simp] theorem e_Put2K {f1 f2 : G D} {k1 k2 : Str} : sPut2K f1 k1 f2 k2 f ρ st = (f ρ st).bind (k2K1 f1 k1 f2 k2 ρ) := rfl
def dispOut (ns : List Str) (o : Out (List D)) : Out D := match o with
  | .ok ds s1 => if ds.length = ns.length then .ok (.ref s1.length) (s1 ++ [.dK (keysOf ns ds)]) else .bad
  | _ => .bad
@[simp] theorem e_DispK {ns : List Str} : gDispK ns fs ρ st = dispOut ns (fs ρ st) := rfl
theorem disp_at {ns : List Str} {ds : List D} (h : ds.length = ns.length) : dispOut ns (.ok ds st) = .ok (.ref st.length) (st ++ [.dK (keysOf ns ds)]) := by
  simp only [dispOut, if_pos h]
@[simp] def kZipM (d : List D) (s1 : Sto) : Out (List D) := oout (mZipM d) s1
@[simp] theorem e_ZipM : gZipM fs ρ st = (fs ρ st).bind kZipM := rfl
@[simp] theorem o_zipm {a b : List D} : mZipM [.lst a, .tup b] = some (zipD a b) := rfl
theorem listK_at (h : st[n]? = some (.dK kvs)) (hl : kvs.length ≤ 1000) : mListK [.ref n] st = some (.lst ((kvs.map (·.1)).map kD)) := by
  simp only [mListK, dk_at h, if_pos hl]
theorem intsOf_map : ∀ ns : List Int, intsOf (ns.map D.int) = some ns
  | [] => rfl
  | n :: ns => by simp [intsOf, intsOf_map ns]
theorem sortI_at (ns : List Int) : mSortI [.lst (ns.map D.int)] st = some (.lst ((sortI ns).map D.int)) := by
  simp [mSortI, intsOf_map]
end
end DL

set_option Elab.async false
set_option linter.all false
set_option maxRecDepth 100000
set_option maxHeartbeats 2000000
/-! # Dicts whose keys are nested tuples: over the machine -/
namespace DL
open PySem PySem.Spec L2
open PyProof.Rows hiding St
abbrev KEs := List (NestedKey × Addr × V)
def luE (es : KEs) (k : NestedKey) : Option V := (es.find? fun x => decide (x.1 = k)).map (·.2.2)
def putE (es : KEs) (k : NestedKey) (b : Addr) (v : V) : KEs := if (luE es k).isSome = true then es.map (fun x => if x.1 = k then (x.1, x.2.1, v) else x) else es ++ [(k, b, v)]
/-- entries of the machine -/
def xsOf (es : KEs) (us : List Value) : List (NestedKey × Addr × Value) := (es.zip us).map fun p => (p.1.1, p.1.2.1, p.2)
theorem xsOf_cons {e : NestedKey × Addr × V} {es : KEs} {u : Value} {us : List Value} : xsOf (e :: es) (u :: us) = (e.1, e.2.1, u) :: xsOf es us := rfl
theorem xs_lu {k : NestedKey} : ∀ {es : KEs} {us : List Value}, Vals (es.map (·.2.2)) us → RelO (luE es k) ((atKey (xsOf es us) k).map (·.2))
  | [], _, r => by cases r; trivial
  | e :: es, _, r => by
    rw [List.map_cons] at r
    cases r with
    | @cons _ u _ us r1 r2 =>
      rw [xsOf_cons]
      unfold luE atKey
      rw [List.find?_cons, List.find?_cons]
      by_cases h : e.1 = k
      · simp only [h, decide_true]
        exact r1
      · simp only [h, decide_false]
        exact xs_lu r2
theorem xs_isSome {k : NestedKey} {es : KEs} {us : List Value} (r : Vals (es.map (·.2.2)) us) : (luE es k).isSome = (atKey (xsOf es us) k).isSome := by
  have h := (xs_lu (k := k) r).isSome_eq
  rw [Option.isSome_map] at h
  exact h
theorem xs_len {es : KEs} {us : List Value} (r : Vals (es.map (·.2.2)) us) : (xsOf es us).length = es.length := by
  have := r.length
  rw [List.length_map] at this
  unfold xsOf
  rw [List.length_map, List.length_zip]
  omega
theorem xs_keys : ∀ {es : KEs} {us : List Value}, Vals (es.map (·.2.2)) us → (xsOf es us).map (·.1) = es.map (·.1)
  | [], _, r => by cases r; rfl
  | e :: es, _, r => by
    rw [List.map_cons] at r
    cases r with
    | cons r1 r2 => rw [xsOf_cons, List.map_cons, List.map_cons, xs_keys r2]
theorem xs_mem : ∀ {es : KEs} {us : List Value}, ∀ x ∈ xsOf es us, ∃ e ∈ es, x.1 = e.1 ∧ x.2.1 = e.2.1
  | [], us, x, h => by simp [xsOf] at h
  | e :: es, [], x, h => by simp [xsOf] at h
  | e :: es, u :: us, x, h => by
    rw [xsOf_cons] at h
    rcases List.mem_cons.mp h with rfl | h
    · exact ⟨e, List.mem_cons_self, rfl, rfl⟩
    · obtain ⟨e', h1, h2⟩ := xs_mem x h
      exact ⟨e', List.mem_cons_of_mem _ h1, h2⟩
/-- the machine's entries behind a store -/
theorem xs_put {k : NestedKey} {b : Addr} {v : V} {u : Value} (rv : RelV v u) {es : KEs} {us : List Value} (r : Vals (es.map (·.2.2)) us) : ∃ us', Vals ((putE es k b v).map (·.2.2)) us' ∧ storedH (xsOf es us) k b u = xsOf (putE es k b v) us' := by
  unfold putE storedH
  rw [xs_isSome r]
  by_cases h : (atKey (xsOf es us) k).isSome = true
  · rw [if_pos h, if_pos h]
    clear h
    revert us
    induction es with
    | nil => intro us r; cases r; exact ⟨[], .nil, rfl⟩
    | cons e es ih =>
      intro us r
      rw [List.map_cons] at r
      cases r with
      | @cons _ w _ us r1 r2 =>
        obtain ⟨us', h1, h2⟩ := ih r2
        rw [xsOf_cons, List.map_cons, List.map_cons, List.map_cons, h2]
        by_cases q : e.1 = k
        · refine ⟨u :: us', by rw [if_pos q]; exact .cons rv h1, ?_⟩
          rw [if_pos q, xsOf_cons]
          unfold putAt
          rw [if_pos q]
        · refine ⟨w :: us', by rw [if_neg q]; exact .cons r1 h1, ?_⟩
          rw [if_neg q, xsOf_cons]
          unfold putAt
          rw [if_neg q]
  · rw [if_neg h, if_neg h]
    refine ⟨us ++ [u], by rw [List.map_append]; exact r.append (.cons rv .nil), ?_⟩
    have hl : es.length = us.length := by
      have := r.length
      rwa [List.length_map] at this
    unfold xsOf
    rw [List.zip_append hl, List.map_append]
    rfl
theorem putE_keys {es : KEs} {k : NestedKey} {b : Addr} {v : V} (nd : (es.map (·.1)).Nodup) : ((putE es k b v).map (·.1)).Nodup := by
  unfold putE
  by_cases h : (luE es k).isSome = true
  · rw [if_pos h, List.map_map]
    have : ((fun x : NestedKey × Addr × V => x.1) ∘ fun x => if x.1 = k then (x.1, x.2.1, v) else x) = (·.1) := by
      funext x
      by_cases q : x.1 = k <;> simp [q]
    rw [this]
    exact nd
  · rw [if_neg h, List.map_append]
    refine List.nodup_append.mpr ⟨nd, by simp, fun x hx y hy => ?_⟩
    rw [List.map_cons, List.map_nil, List.mem_singleton] at hy
    subst hy
    rintro rfl
    obtain ⟨e, he, rfl⟩ := List.mem_map.mp hx
    apply h
    unfold luE
    rw [Option.isSome_map, List.find?_isSome]
    exact ⟨e, he, by simp⟩
theorem putE_len {es : KEs} {k : NestedKey} {b : Addr} {v : V} : (putE es k b v).length ≤ es.length + 1 := by
  unfold putE
  split
  · rw [List.length_map]; omega
  · rw [List.length_append]; exact Nat.le_refl _
theorem putE_mem {es : KEs} {k : NestedKey} {b : Addr} {v : V} : ∀ x ∈ putE es k b v, (∃ e ∈ es, x.1 = e.1 ∧ x.2.1 = e.2.1) ∨ (x.1 = k ∧ x.2.1 = b) := by
  intro x hx
  unfold putE at hx
  split at hx
  · obtain ⟨e, he, rfl⟩ := List.mem_map.mp hx
    refine .inl ⟨e, he, ?_⟩
    by_cases q : e.1 = k <;> simp [q]
  · rcases List.mem_append.mp hx with hx | hx
    · exact .inl ⟨x, hx, rfl, rfl⟩
    · rw [List.mem_singleton.mp hx]
      exact .inr ⟨rfl, rfl⟩
/-- the value y is the key k -/
def KeyIsV (X : Cx) (H : Hp) (y : V) (k : NestedKey) : Prop := ∀ (pins : List (Addr × Obj)) (σ : L2.St) (s : Shared) (u : Value), Inv X pins σ H s → RelV y u → NestedIs s.heap k u
/-- a dict of such keys stands at a -/
def NDic (X : Cx) (H : Hp) (a : Addr) (es : KEs) : Prop := (H a = some (dictN (zOf X) a es) ∨ ∃ o, H a = some (.frz o (dictN (zOf X) a es))) ∧ ∀ e ∈ es, KeyIsV X H (.ref e.2.1) e.1
section
variable {X : Cx} {pins : List (Addr × Obj)} {σ : L2.St} {H : Hp} {s : Shared} {a b : Addr} {es : KEs} {A : Around} {E : Value → Shared → Prop}
theorem dictN_heap {K : Zx} {h : Heap} {P : Program} {w : World} (o : ObjOk P w H h a (dictN K a es)) : (es.map (·.1)).Nodup ∧ es.length ≤ sizeLine ∧ (a == sysModules) = false ∧ (∀ e ∈ es, e.1.depth ≤ 8) ∧ ∃ (o : Obj) (en : Array DictEntry) (ep : Nat) (us : List Value), h.get? a = some o ∧ o.ExactDict ∧ o.data = .dict en ep ∧ Vals (es.map (·.2.2)) us ∧
  en.toList = (xsOf es us).map (entryOfKey (nestedKind K.P K.w)) := o.1
theorem nd_heap (I : Inv X pins σ H s) (n : NDic X H a es) : (es.map (·.1)).Nodup ∧ es.length ≤ sizeLine ∧ (a == sysModules) = false ∧ (∀ e ∈ es, e.1.depth ≤ 8) ∧ ∃ us, Vals (es.map (·.2.2)) us ∧ s.heap.DictOfH (nestedKind X.prog X.w) a (xsOf es us) := by
  obtain ⟨hd, hk⟩ := n
  have ok : ObjOk X.prog X.w H s.heap a (dictN (zOf X) a es) := by
    rcases hd with hd | ⟨o, hd⟩
    · exact I.hok a _ hd
    · exact (I.hok a _ hd).2
  obtain ⟨h1, h2, h3, h4, o, en, ep, us, g1, g2, g3, g4, g5⟩ := dictN_heap ok
  refine ⟨h1, h2, h3, h4, us, g4, o, en, ep, g1, g2, g3, g5, fun x hx => ?_, by rw [xs_keys g4]; exact h1⟩
  obtain ⟨e, he, e1, e2⟩ := xs_mem x hx
  rw [e1, e2]
  exact ⟨hk e he pins σ s _ I rfl, h4 e he⟩
theorem nk_room (hu : A.units + 9 < cLine) : (nestedKind X.prog X.w).room A.in1 := by
  show A.units + 1 + 8 < cLine
  omega
theorem nk_is {k : NestedKey} {u : Value} (I : Inv X pins σ H s) (hk : KeyIsV X H (.ref b) k) (h8 : k.depth ≤ 8) (ru : RelV (.ref b) u) : u = .ref b ∧ (nestedKind X.prog X.w).is s.heap k b := by
  cases ru
  exact ⟨rfl, hk pins σ s _ I rfl, h8⟩
theorem n_getItem {k : NestedKey} {v : V} {u : Value} {Q : Value → Shared → Prop} (hu : A.units + 9 < cLine) (I : Inv X pins σ H s) (n : NDic X H a es) (hk : KeyIsV X H (.ref b) k) (h8 : k.depth ≤ 8) (hv : luE es k = some v) (ru : RelV (.ref b) u) (h : ∀ w' s', Inv X pins σ H s' → RelV v w' → Q w' s') :
    wpAny (model X.prog X.w) A (getItem (.ref a) u) Q E s := by
  obtain ⟨h1, h2, h3, h4, us, g1, g2⟩ := nd_heap I n
  obtain ⟨rfl, kk⟩ := nk_is I hk h8 ru
  obtain ⟨w', hw, rw'⟩ := RelO.some_of (v := v) (o := (atKey (xsOf es us) k).map (·.2)) (by rw [← hv]; exact xs_lu g1)
  obtain ⟨p, hp, hp2⟩ := Option.map_eq_some_iff.mp hw
  refine wpAny_getItem_heap (nk_room hu) kk g2 hp ?_
  rw [hp2]
  exact h w' _ (I.tok _) rw'
theorem n_in {k : NestedKey} {u : Value} {Q : Value → Shared → Prop} (hu : A.units + 9 < cLine) (I : Inv X pins σ H s) (n : NDic X H a es) (hk : KeyIsV X H (.ref b) k) (h8 : k.depth ≤ 8) (ru : RelV (.ref b) u) (h : ∀ s', Inv X pins σ H s' → Q (.bool (luE es k).isSome) s') :
    wpAny (model X.prog X.w) A (compareOp .In u (.ref a)) Q E s := by
  obtain ⟨h1, h2, h3, h4, us, g1, g2⟩ := nd_heap I n
  obtain ⟨rfl, kk⟩ := nk_is I hk h8 ru
  refine wpAny_in_heap (nk_room hu) kk h3 g2 ?_
  rw [← xs_isSome g1]
  exact h _ (I.tok _)
theorem n_notIn {k : NestedKey} {u : Value} {Q : Value → Shared → Prop} (hu : A.units + 9 < cLine) (I : Inv X pins σ H s) (n : NDic X H a es) (hk : KeyIsV X H (.ref b) k) (h8 : k.depth ≤ 8) (ru : RelV (.ref b) u) (h : ∀ s', Inv X pins σ H s' → Q (.bool (!(luE es k).isSome)) s') :
    wpAny (model X.prog X.w) A (compareOp .NotIn u (.ref a)) Q E s := by
  obtain ⟨h1, h2, h3, h4, us, g1, g2⟩ := nd_heap I n
  obtain ⟨rfl, kk⟩ := nk_is I hk h8 ru
  refine wpAny_notIn_heap (nk_room hu) kk h3 g2 ?_
  rw [← xs_isSome g1]
  exact h _ (I.tok _)
theorem n_typeIs (I : Inv X pins σ H s) (n : NDic X H a es) : s.TypeIs (.ref a) "dict" := by
  obtain ⟨_, _, _, _, us, _, g2⟩ := nd_heap I n
  exact g2.typeIs
theorem n_noDict (I : Inv X pins σ H s) (n : NDic X H a es) : ∀ c, Value.ref a = .ref c → ∃ ob, s.heap.get? c = some ob ∧ ob.dict = none := fun c q => by
  cases q
  obtain ⟨_, _, _, _, us, _, o, en, ep, g1, g2, _⟩ := nd_heap I n
  exact ⟨o, g1, g2.2.1⟩
theorem n_get2 {k : NestedKey} {d : V} {u r : Value} {Q : Value → Shared → Prop} (hu : A.units + 9 < cLine) (I : Inv X pins σ H s) (n : NDic X H a es) (hk : KeyIsV X H (.ref b) k) (h8 : k.depth ≤ 8) (ru : RelV (.ref b) u) (rd : RelV d r) (h : ∀ w' s', Inv X pins σ H s' → RelV ((luE es k).getD d) w' → Q w' s') :
    wpAny (model X.prog X.w) A (call (.builtin "dict.get") [.ref a, u, r]) Q E s := by
  obtain ⟨h1, h2, h3, h4, us, g1, g2⟩ := nd_heap I n
  obtain ⟨rfl, kk⟩ := nk_is I hk h8 ru
  exact call_meetsIn PySem.F.slot_dict_get g2.typeIs PySem.F.entry_dict_get (PySem.F.args_dict_get_3 _ _ _) (meetsH_dict_get_default (nestedKind X.prog X.w) a b h3 r) ⟨nk_room hu, k, _, kk, g2, h _ _ (I.tok _) ((xs_lu g1).getD rd)⟩
theorem dictN_ok {P : Program} {w : World} {K : Zx} {h : Heap} {us : List Value} {o : Obj} {en : Array DictEntry} {ep : Nat} (h1 : (es.map (·.1)).Nodup) (h2 : es.length ≤ sizeLine) (h3 : (a == sysModules) = false) (h4 : ∀ e ∈ es, e.1.depth ≤ 8) (g1 : h.get? a = some o) (g2 : o.ExactDict) (g3 : o.data = .dict en ep) (g4 : Vals (es.map (·.2.2)) us)
    (g5 : en.toList = (xsOf es us).map (entryOfKey (nestedKind K.P K.w))) : ObjOk P w H h a (dictN K a es) :=
  ⟨⟨h1, h2, h3, h4, o, en, ep, us, g1, g2, g3, g4, g5⟩, ⟨o, g1⟩, fun k1 k2 ⟨q1, q2, q3, q4, o', en', ep', us', z1, z2⟩ kk => ⟨q1, q2, q3, q4, o', en', ep', us', kk _ z1, z2⟩⟩
theorem n_setItem {k : NestedKey} {v : V} {u r : Value} {Q : Unit → Shared → Prop} (hu : A.units + 9 < cLine) (I : Inv X pins σ H s) (hd : H a = some (dictN (zOf X) a es)) (he : ∀ e ∈ es, KeyIsV X H (.ref e.2.1) e.1) (hk : KeyIsV X H (.ref b) k) (h8 : k.depth ≤ 8) (hl : es.length < sizeLine) (ru : RelV (.ref b) u) (rv : RelV v r)
    (h : ∀ s', Inv X pins σ (upd H a (dictN (zOf X) a (putE es k b v))) s' → Q () s') : wpAny (model X.prog X.w) A (setItem (.ref a) u r) Q E s := by
  obtain ⟨h1, h2, h3, h4, us, g1, g2⟩ := nd_heap I ⟨.inl hd, he⟩
  obtain ⟨rfl, kk⟩ := nk_is I hk h8 ru
  refine wpAny_setItem_heap (hsz := by rw [xs_len g1]; exact h2) (nk_room hu) kk g2 fun h' dd' hs => h _ ?_
  obtain ⟨us', z1, z2⟩ := xs_put (k := k) (b := b) rv g1
  rw [z2] at dd'
  obtain ⟨q, en, ep, hq, y2, y3, y4, _, y5⟩ := dd'
  refine d_write I (by rw [hd]; exact True.intro) hs ⟨q, hq⟩ (dictN_ok (putE_keys h1) (by have := putE_len (es := es) (k := k) (b := b) (v := v); omega) h3 (fun e he => ?_) hq y2 y3 z1 y4)
  rcases putE_mem e he with ⟨e', he', q1, _⟩ | ⟨q1, _⟩
  · rw [q1]; exact h4 e' he'
  · rw [q1]; exact h8
end
end DL

set_option Elab.async false
set_option linter.all false
set_option maxRecDepth 100000
set_option maxHeartbeats 2000000
/-! # Dicts whose keys are nested tuples: rules over values -/
namespace DL
open PySem PySem.Spec L2
open PyProof.Rows hiding St
section
variable {X : Cx} {pins : List (Addr × Obj)} {σ : L2.St} {H : Hp} {s : Shared} {a b d : Addr} {es : KEs} {A : Around} {E : Value → Shared → Prop}
theorem n_truth {Q : Bool → Shared → Prop} (I : Inv X pins σ H s) (n : NDic X H a es) (h : ∀ s', Inv X pins σ H s' → Q (!es.isEmpty) s') : wpAny (model X.prog X.w) A (truthy (.ref a)) Q E s := by
  obtain ⟨h1, h2, h3, h4, us, g1, hm⟩ := nd_heap I n
  have hl : (xsOf es us).length = es.length := xs_len g1
  have hfit : ((xsOf es us).length : Int) < 2 ^ 63 := by rw [hl]; rw [sizeLine_eq] at h2; omega
  have hne : (((xsOf es us).length : Int) != 0) = !es.isEmpty := by rw [hl]; cases es <;> simp <;> omega
  have h := h { s with toks := s.toks + 1 + 1 } (I.tok _)
  have key : wpAny (model X.prog X.w) A (runValue (.builtin "len" ⟨[.ref a], []⟩)) (fun r s' => r = .int (xsOf es us).length (s.toks + 1) ∧ Q (!es.isEmpty) s') E s := by
    refine wpAny_runValue (codeAny_builtin entry_len ?_)
    rw [Around.under_plainId plain_len _]
    exact wpAny_mono (wpAny_len_body_dictH (Q := fun r s' => r = .int (xsOf es us).length (s.toks + 1) ∧ Q (!es.isEmpty) s') h3 hm hfit ⟨rfl, h⟩)
      (fun fin s' h' => by obtain ⟨r, rfl, hq⟩ := h'; exact hq) fun _ _ e => e
  unfold truthy
  first
    | refine wpAny_bind (wpAny_callSpecial?_none (name := Str.ofString "__bool__") hm.typeIs noBool_dict ?_)
    | refine wpAny_bind (wpAny_pure (wpAny_bind (wpAny_callSpecial?_none (name := Str.ofString "__bool__") hm.typeIs noBool_dict ?_)))
  first
    | refine wpAny_bind (wpAny_specialOf (name := Str.ofString "__len__") hm.typeIs PySem.F.slot_dict_len.lookup ?_)
    | refine wpAny_bind (wpAny_pure (wpAny_bind (wpAny_specialOf (name := Str.ofString "__len__") hm.typeIs PySem.F.slot_dict_len.lookup ?_)))
  first
    | exact wpAny_bind (wpAny_mono key (fun r s' h' => by obtain ⟨rfl, hq⟩ := h'; exact wpAny_pure (hne ▸ hq)) fun _ _ e => e)
    | exact wpAny_bind (wpAny_pure (wpAny_bind (wpAny_mono key (fun r s' h' => by obtain ⟨rfl, hq⟩ := h'; exact wpAny_pure (hne ▸ hq)) fun _ _ e => e)))
/-- the raw entries of a dict that is locked -/
theorem frzN {o : Obj} (I : Inv X pins σ H s) (h : H d = some (.frz o (dictN (zOf X) d es))) : (d == sysModules) = false ∧ s.heap.get? d = some o ∧ ∃ (en : Array DictEntry) (ep : Nat) (us : List Value), o.ExactDict ∧ o.data = .dict en ep ∧ en.size = es.length ∧ Vals (es.map (·.2.2)) us ∧ s.heap.DictRaw d en ep ∧
    ∀ (i : Nat) (e : NestedKey × Addr × V), es[i]? = some e → ∃ (hi : i < en.size) (u : Value), en[i].key = .ref e.2.1 ∧ en[i].val = u ∧ RelV e.2.2 u := by
  obtain ⟨hg, ok⟩ := I.hok d _ h
  obtain ⟨h1, h2, h3, h4, o', en, ep, us, g1, g2, g3, g4, g5⟩ := dictN_heap ok
  rw [hg] at g1
  cases g1
  have hs : en.size = es.length := by
    have := congrArg List.length g5
    rw [List.length_map, xs_len g4, Array.length_toList] at this
    exact this
  refine ⟨h3, hg, en, ep, us, g2, g3, hs, g4, ⟨o, hg, g2, g3⟩, fun i e he => ?_⟩
  have hi : i < es.length := (List.getElem?_eq_some_iff.mp he).1
  have hi' : i < en.size := by rw [hs]; exact hi
  have hv : (es.map (·.2.2))[i]? = some e.2.2 := by rw [List.getElem?_map, he]; rfl
  obtain ⟨u, hu, ru⟩ := g4.get hv
  have hx : (xsOf es us)[i]? = some (e.1, e.2.1, u) := by
    unfold xsOf
    rw [List.getElem?_map, List.getElem?_zip_eq_some (z := (e, u)) |>.mpr ⟨he, hu⟩]
    rfl
  have hen : en.toList[i]? = some (entryOfKey (nestedKind X.prog X.w) (e.1, e.2.1, u)) := by rw [g5, List.getElem?_map, hx]; rfl
  rw [Array.getElem?_toList, Array.getElem?_eq_getElem hi'] at hen
  have hen := Option.some.inj hen
  exact ⟨hi', u, by rw [hen]; rfl, by rw [hen]; rfl, ru⟩
end
/-- the pairs of the locked dict, each a new tuple -/
def ItnI (K : Zx) (d : Addr) (o : Obj) (es : KEs) : It :=
  ⟨fun i H => H d = some (.frz o (dictN K d es)) ∧ i < es.length, fun i H x H' => ∃ T e, es[i]? = some e ∧ x = .ref T ∧ H T = none ∧ H' = upd H T (.tup [.ref e.2.1, e.2.2]), fun i H => H d = some (.frz o (dictN K d es)) ∧ es.length ≤ i⟩
/-- the values -/
def ItnV (K : Zx) (d : Addr) (o : Obj) (es : KEs) : It :=
  ⟨fun i H => H d = some (.frz o (dictN K d es)) ∧ i < es.length, fun i H x H' => H' = H ∧ ∃ e, es[i]? = some e ∧ x = e.2.2, fun i H => H d = some (.frz o (dictN K d es)) ∧ es.length ≤ i⟩
section
variable {P : Program} {w : World} {K : PySem.W.Frag} {base : Heap} {tg : Expr} {d : Addr} {o : Obj} {en : Array DictEntry} {ep : Nat} {es : KEs}
theorem turn_nI {elts : List Expr} {kk : Nat} {tpos : Pos} (it : Addr) (hod : o.data = .dict en ep) (hlen : en.size = es.length) :
    Turn P w K (.Tuple elts kk tpos) (ItnI ⟨P, K, w, base⟩ d o es) [it] it (fun i h => ∃ ok ov, IsItemIter h it d i en.size ep ok ov) where
  mem := by simp
  obj := fun i h st b hb => by
    have e : b = it := by simpa using hb
    subst e
    obtain ⟨ok, ov, e⟩ := st
    exact ⟨_, e, fun v z => nomatch z⟩
  keep := fun i h h' st k => let ⟨ok, ov, e⟩ := st; ⟨ok, ov, k it (by simp) _ e⟩
  item := by
    intro X hP hw hK hc i pins s σ H E I hf st hg
    obtain ⟨hd, hi⟩ := hg
    have hd : H d = some (.frz o (dictN (zOf X) d es)) := by
      subst hP hw hK
      exact hd
    obtain ⟨hs, hgd, en', ep', us, hx, hdt, hsz, hv, hm, hent⟩ := frzN I hd
    obtain ⟨rfl, rfl⟩ := dict_ep hod hdt
    have hes : es[i]? = some es[i] := List.getElem?_eq_getElem hi
    obtain ⟨hi', u, ek, ev, ru⟩ := hent i _ hes
    obtain ⟨ok, ov, he⟩ := st
    have hlt : it < s.heap.objs.size := Heap.lt_size he
    subst hP hw hK
    refine wpAny_pyNext_items_item_raw he hm hi' fun h' ho hT hz hk => ?_
    refine ⟨_, rfl, wpAny_letOwnedTupleGo_items (s := { s with heap := h' }) ho fun h'' he' sb => ?_⟩
    have hT2 : h''.get? s.heap.objs.size = some { cls := .type "tuple", data := .seq #[.ref es[i].2.1, u] } := (sb.2 _ (Nat.ne_of_gt hlt)).trans (by rw [hT, ek, ev])
    have new : ObjOk X.prog X.w (upd H s.heap.objs.size (.tup [.ref es[i].2.1, es[i].2.2])) h'' s.heap.objs.size (.tup [.ref es[i].2.1, es[i].2.2]) :=
      ⟨by show 2 ≤ sizeLine; decide, [.ref es[i].2.1, u], .cons rfl (.cons ru .nil), ⟨_, hT2, rfl, _, rfl⟩⟩
    have I1 : Inv X pins σ (upd H s.heap.objs.size (.tup [.ref es[i].2.1, es[i].2.2])) { s with heap := h'' } :=
      I.turnedNew (t' := s.toks) (ch := [it]) (fun b ob hb e => (sb.2 b (by simpa using hb)).trans (hk b ob (by simpa using hb) e)) hf (Nat.le_refl _) new
    refine ⟨.ref s.heap.objs.size, _, I1, rfl, ⟨_, _, hes, rfl, I.hok.fresh (Nat.le_refl _), rfl⟩, ⟨_, _, he'⟩, fun b hb => ?_⟩
    have e : b = it := by simpa using hb
    rw [e, upd_ne (Nat.ne_of_lt hlt)]
    exact (hf it (by simp)).1
  done := by
    intro X hP hw hK hc i pins s σ H E I hf st hg
    obtain ⟨hd, hi⟩ := hg
    have hd : H d = some (.frz o (dictN (zOf X) d es)) := by
      subst hP hw hK
      exact hd
    obtain ⟨f0, f1, f2, f3, f4, f5⟩ := hf it (by simp)
    obtain ⟨hs, hgd, en', ep', us, hx, hdt, hsz, hv, hm, hent⟩ := frzN I hd
    obtain ⟨rfl, rfl⟩ := dict_ep hod hdt
    obtain ⟨ok, ov, he⟩ := st
    subst hP hw hK
    exact wpAny_pyNext_items_end_raw (I.ok.hd hc) he hm (by omega) fun h' eb => ⟨rfl, I.turned (t' := s.toks) (fun b ob hb e => eb b ob hb e) f0 f1 f3 f4 f5⟩
  self := fun A i s Q E st h => let ⟨_, _, e⟩ := st; PySem.W.kcp_self e h
theorem turn_nV (it : Addr) (hod : o.data = .dict en ep) (hlen : en.size = es.length) :
    Turn P w K tg (ItnV ⟨P, K, w, base⟩ d o es) [it] it (fun i h => h.IsValIter it d i en.size ep) where
  mem := by simp
  obj := fun i h st b hb => by
    have e : b = it := by simpa using hb
    subst e
    obtain ⟨oi, e, c, dd⟩ := st
    exact ⟨oi, e, fun v z => by rw [dd] at z; cases z⟩
  keep := fun i h h' st k => st.at fun oi e => k it (by simp) oi e
  item := by
    intro X hP hw hK hc i pins s σ H E I hf st hg
    obtain ⟨hd, hi⟩ := hg
    have hd : H d = some (.frz o (dictN (zOf X) d es)) := by
      subst hP hw hK
      exact hd
    obtain ⟨f0, f1, f2, f3, f4, f5⟩ := hf it (by simp)
    obtain ⟨hs, hgd, en', ep', us, hx, hdt, hsz, hv, hm, hent⟩ := frzN I hd
    obtain ⟨rfl, rfl⟩ := dict_ep hod hdt
    have hes : es[i]? = some es[i] := List.getElem?_eq_getElem hi
    obtain ⟨hi', u, ek, ev, ru⟩ := hent i _ hes
    subst hP hw hK
    refine wpAny_pyNext_values_item_raw st hm hi' fun h' st' sb => ?_
    have I1 : Inv X pins σ H { s with heap := h' } := I.turned (t' := s.toks) (fun b ob hb e => (sb.2 b hb).trans e) f0 f1 f3 f4 f5
    obtain ⟨oi, e, c, dd⟩ := id st'
    rw [ev]
    exact ⟨u, rfl, go_of (s := { s with heap := h' }) e c dd (by decide) ⟨es[i].2.2, H, I1, ru, ⟨rfl, _, hes, rfl⟩, st', fun b hb => (hf b hb).1⟩⟩
  done := by
    intro X hP hw hK hc i pins s σ H E I hf st hg
    obtain ⟨hd, hi⟩ := hg
    have hd : H d = some (.frz o (dictN (zOf X) d es)) := by
      subst hP hw hK
      exact hd
    obtain ⟨f0, f1, f2, f3, f4, f5⟩ := hf it (by simp)
    obtain ⟨hs, hgd, en', ep', us, hx, hdt, hsz, hv, hm, hent⟩ := frzN I hd
    obtain ⟨rfl, rfl⟩ := dict_ep hod hdt
    subst hP hw hK
    exact wpAny_pyNext_values_end_raw (I.ok.hd hc) st hm (by omega) fun h' eb => ⟨rfl, I.turned (t' := s.toks) (fun b ob hb e => eb b ob hb e) f0 f1 f3 f4 f5⟩
  self := fun A i s Q E st h => wpAny_pyIter_valiter st h
end
section
variable {X : Cx} {tg e : Expr} {td : TE} {apos cpos : Pos}
def iNI (X : Cx) (td : TE) : TI := fun σ H R => td σ H fun x H1 => ∃ d es, x = .ref d ∧ ((H1 d = some (dictN (zOf X) d es) ∧ ∀ o, R (ItnI (zOf X) d o es) (upd H1 d (.frz o (dictN (zOf X) d es)))) ∨ ∃ o, H1 d = some (.frz o (dictN (zOf X) d es)) ∧ R (ItnI (zOf X) d o es) H1)
def iNV (X : Cx) (td : TE) : TI := fun σ H R => td σ H fun x H1 => ∃ d es, x = .ref d ∧ ((H1 d = some (dictN (zOf X) d es) ∧ ∀ o, R (ItnV (zOf X) d o es) (upd H1 d (.frz o (dictN (zOf X) d es)))) ∨ ∃ o, H1 d = some (.frz o (dictN (zOf X) d es)) ∧ R (ItnV (zOf X) d o es) H1)
theorem frz_now {pins : List (Addr × Obj)} {σ : L2.St} {H1 : Hp} {s1 : Shared} {d : Addr} {es : KEs} {J : Obj → It} {R : It → Hp → Prop} (I1 : Inv X pins σ H1 s1) (q : (H1 d = some (dictN (zOf X) d es) ∧ ∀ o, R (J o) (upd H1 d (.frz o (dictN (zOf X) d es)))) ∨ ∃ o, H1 d = some (.frz o (dictN (zOf X) d es)) ∧ R (J o) H1) :
    ∃ o H2, Inv X pins σ H2 s1 ∧ H2 d = some (.frz o (dictN (zOf X) d es)) ∧ R (J o) H2 := by
  rcases q with ⟨hd, q⟩ | ⟨o, hd, q⟩
  · obtain ⟨o, I2⟩ := I1.lock hd True.intro
    exact ⟨o, _, I2, upd_same, q o⟩
  · exact ⟨o, H1, I1, hd, q⟩
theorem pi_nV (he : PE X e td) (hbase : attributeBase e "values" X.env (eval e X.env) = eval e X.env := by rfl) (hline : (apos.endLine == cpos.line) = true := by rfl) : PI X tg (.Call (.Attribute e "values" apos) [] [] cpos) (iNV X td) := by
  refine ⟨fun pins s σ H R I h => ?_⟩
  refine wpAny_Call_method (T := "dict") (id := "dict.values") hbase rfl hline PySem.F.plainAttrs_dict PySem.F.slot_dict_values PySem.F.type_dict_values (thn (he.run pins s σ H _ I h) fun u s1 ⟨x, H0, I0, rx, d, es, ex, q⟩ => ?_)
  subst ex
  obtain rfl : u = Value.ref d := rx
  obtain ⟨o, H1, I1, hd, q⟩ := frz_now (J := fun o => ItnV (zOf X) d o es) I0 q
  obtain ⟨hs, hgd, en, ep, us, hx, hdt, hsz, hv, hm, hent⟩ := frzN I1 hd
  refine ⟨hm.typeIs, fun c q => by cases q; exact ⟨o, hgd, hx.2.1⟩, ?_⟩
  have I2 : Inv X pins σ H1 { s1 with heap := s1.heap.push { cls := .type "dict_values", data := .fields #[.ref d] } } := I1.kept (t' := s1.toks) fun b ob q => Heap.get?_push_of_some _ q
  have fin : wpAny (model X.prog X.w) X.A (pyIter (.ref s1.heap.objs.size)) (PIE X pins σ tg R) X.xe { s1 with heap := s1.heap.push { cls := .type "dict_values", data := .fields #[.ref d] } } := by
    refine wpAny_pyIter_values_raw (d := d) ⟨_, Heap.get?_push_size _ rfl, rfl, rfl⟩ (hm.at fun o' q => Heap.get?_push_of_some _ q) (pi_one (tk := s1.toks) I2 _ (turn_nV (base := X.base) _ hdt hsz) ⟨_, Heap.get?_push_size _ rfl, rfl, ?_⟩ q)
    rfl
  show wpAny _ _ (callWith cpos (.builtin "dict.values") [.ref d] [] []) _ X.xe s1
  exact method_meetsIn PySem.F.slot_dict_values PySem.F.entry_dict_values rfl (PySem.evalArgs_none ⟨rfl, hm.typeIs, PySem.F.args_dict_values_1 _, _, meets_dict_values_raw d hs, ⟨en, ep, hm⟩, fin⟩)
theorem pi_nI {elts : List Expr} {kk : Nat} {tpos : Pos} (he : PE X e td) (hbase : attributeBase e "items" X.env (eval e X.env) = eval e X.env := by rfl) (hline : (apos.endLine == cpos.line) = true := by rfl) :
    PI X (.Tuple elts kk tpos) (.Call (.Attribute e "items" apos) [] [] cpos) (iNI X td) := by
  refine ⟨fun pins s σ H R I h => ?_⟩
  refine wpAny_Call_method (T := "dict") (id := "dict.items") hbase rfl hline PySem.F.plainAttrs_dict PySem.F.slot_dict_items PySem.F.type_dict_items (thn (he.run pins s σ H _ I h) fun u s1 ⟨x, H0, I0, rx, d, es, ex, q⟩ => ?_)
  subst ex
  obtain rfl : u = Value.ref d := rx
  obtain ⟨o, H1, I1, hd, q⟩ := frz_now (J := fun o => ItnI (zOf X) d o es) I0 q
  obtain ⟨hs, hgd, en, ep, us, hx, hdt, hsz, hv, hm, hent⟩ := frzN I1 hd
  refine ⟨hm.typeIs, fun c q => by cases q; exact ⟨o, hgd, hx.2.1⟩, ?_⟩
  have I2 : Inv X pins σ H1 { s1 with heap := s1.heap.push { cls := .type "dict_items", data := .fields #[.ref d] } } := I1.kept (t' := s1.toks) fun b ob q => Heap.get?_push_of_some _ q
  have fin : wpAny (model X.prog X.w) X.A (pyIter (.ref s1.heap.objs.size)) (PIE X pins σ (.Tuple elts kk tpos) R) X.xe { s1 with heap := s1.heap.push { cls := .type "dict_items", data := .fields #[.ref d] } } := by
    refine wpAny_pyIter_items_raw (d := d) ⟨_, Heap.get?_push_size _ rfl, rfl, rfl⟩ (hm.at fun o' q => Heap.get?_push_of_some _ q) (pi_one (tk := s1.toks) I2 _ (turn_nI (base := X.base) _ hdt hsz) ⟨.none, .none, ?_⟩ q)
    exact Heap.get?_push_size _ rfl
  show wpAny _ _ (callWith cpos (.builtin "dict.items") [.ref d] [] []) _ X.xe s1
  exact method_meetsIn PySem.F.slot_dict_items PySem.F.entry_dict_items rfl (PySem.evalArgs_none ⟨rfl, hm.typeIs, PySem.F.args_dict_items_1 _, _, meets_dict_items_raw d hs, ⟨en, ep, hm⟩, fin⟩)
/-! ### d[y], y in d, d[y] = v, d.get(y, x), {}, {k: v}, if d -/
def tNGet (X : Cx) (td ty : TE) : TE := fun σ H Q => td σ H fun x H1 => ty σ H1 fun y H2 => ∃ a b es k v, x = .ref a ∧ y = .ref b ∧ NDic X H2 a es ∧ KeyIsV X H2 (.ref b) k ∧ k.depth ≤ 8 ∧ luE es k = some v ∧ Q v H2
def rNIn (X : Cx) (neg : Bool) : R2 := fun y x H Q => ∃ a b es k, x = .ref a ∧ y = .ref b ∧ NDic X H a es ∧ KeyIsV X H (.ref b) k ∧ k.depth ≤ 8 ∧ Q (.bl (if neg then !(luE es k).isSome else (luE es k).isSome)) H
def sNPut (X : Cx) (td ty tv : TE) : TS := fun D σ H => tv σ H fun v H1 => td σ H1 fun x H2 => ty σ H2 fun y H3 => ∃ a b es k, x = .ref a ∧ y = .ref b ∧ H3 a = some (dictN (zOf X) a es) ∧ (∀ e ∈ es, KeyIsV X H3 (.ref e.2.1) e.1) ∧ KeyIsV X H3 (.ref b) k ∧ k.depth ≤ 8 ∧ es.length < sizeLine ∧ D.nx σ (upd H3 a (dictN (zOf X) a (putE es k b v)))
variable {o i value f : Expr} {pos pos' tpos : Pos} {ty tv tf : TE}
theorem pe_nget (hu : X.A.units + 9 < cLine) (ho : PE X o td) (hi : PE X i ty) (hs : NoSl i) : PE X (.Subscript o i pos) (tNGet X td ty) := by
  refine ⟨fun pins s σ H Q I h => ?_⟩
  refine subD_of PySem.F.slot_dict_getitem.lookup hs (thn (ho.run pins s σ H _ I h) fun u s1 ⟨x, H1, I1, rx, q1⟩ => thn (hi.run pins s1 σ H1 _ I1 q1) fun iv s2 ⟨y, H2, I2, ry, a, b, es, k, v, ex, ey, n, hk, h8, hv, q2⟩ => ?_)
  subst ex ey
  obtain rfl : u = Value.ref a := rx
  exact ⟨n_typeIs I2 n, n_getItem hu I2 n hk h8 hv ry fun w' s3 I3 rw' => ⟨v, H2, I3, rw', q2⟩⟩
theorem or_nin (hu : X.A.units + 9 < cLine) : OpR X (compareOp .In) (rNIn X false) := by
  intro pins s σ H y x uy ux Q I ry rx h
  obtain ⟨a, b, es, k, ex, ey, n, hk, h8, q⟩ := h
  subst ex ey
  obtain rfl : ux = Value.ref a := rx
  exact n_in hu I n hk h8 ry fun s3 I3 => ⟨.bl (luE es k).isSome, H, I3, rfl, q⟩
theorem or_nnotin (hu : X.A.units + 9 < cLine) : OpR X (compareOp .NotIn) (rNIn X true) := by
  intro pins s σ H y x uy ux Q I ry rx h
  obtain ⟨a, b, es, k, ex, ey, n, hk, h8, q⟩ := h
  subst ex ey
  obtain rfl : ux = Value.ref a := rx
  exact n_notIn hu I n hk h8 ry fun s3 I3 => ⟨.bl (!(luE es k).isSome), H, I3, rfl, q⟩
theorem ps_nput (hu : X.A.units + 9 < cLine) (ho : PE X o td) (hi : PE X i ty) (hv : PE X value tv) (hs : swapsWith value (some (.Subscript o i pos')) pos.line X.env = pure false) :
    PS X (.Assign [.Subscript o i pos'] value pos) (sNPut X td ty tv) := by
  refine ⟨fun pins s σ H D I h => ?_⟩
  refine wpAny_Assign_Subscript (thn (hv.run pins s σ H _ I h) fun r s1 ⟨v, H1, I1, rv, q1⟩ => thn (ho.run pins s1 σ H1 _ I1 q1) fun u s2 ⟨x, H2, I2, rx, q2⟩ => thn (hi.run pins s2 σ H2 _ I2 q2) fun iv s3 ⟨y, H3, I3, ry, a, b, es, k, ex, ey, hd, he, hk, h8, hl, q3⟩ => ?_) hs
  subst ex ey
  obtain rfl : u = Value.ref a := rx
  exact n_setItem hu I3 hd he hk h8 hl ry rv fun s4 I4 => ⟨σ, _, I4, q3⟩
end
end DL

set_option Elab.async false
set_option linter.all false
set_option maxRecDepth 100000
set_option maxHeartbeats 2000000
/-! # Dicts whose keys are nested tuples: displays, get, list, sorted; min of two data -/
namespace PySem
open Sem (wp)
section
variable {prog : Program} {w : World} {A : Around} {E : Value → Shared → Prop} {s : Shared}
theorem call_min_twoH {a b : Value} {Q : Value → Shared → Prop}
    (h : wpAny (model prog w) A.in1 (pyIter (.ref s.heap.objs.size)) (fun it s₂ => ∃ I fp wr G n P St H bt, it = .ref I ∧ WalksS prog w A.in1 I fp wr G n P St ∧ St 0 s₂ ∧ (∀ b ∈ fp, b < s₂.heap.objs.size) ∧ 0 < n ∧
      (∀ b o, H.get? b = some o → b ∉ wr) ∧ (∀ b o, H.get? b = some o → s₂.heap.get? b = some o) ∧ CmpIn prog w A.in1 .Lt H P bt ∧ ∀ v s', P (argBest bt (n - 1)) v → Moved wr G s₂ s' → Q v s') E
      { s with heap := s.heap.push { cls := .type "tuple", data := .seq #[a, b] } }) :
    wpAny (model prog w) A (call (.builtin "min") [a, b]) Q E s := by
  have hname : (toString "min" ++ toString ".loop" : String) = "min.loop" := by decide
  refine call_function_tree F.kind_min F.plain_min F.entry_min (F.args_min2 _ _) ?_
  show wpAny _ A.in1 (Builtin.Builtins.bindParams "min" ["key", "default"] 0 ⟨[], []⟩ >>= _) _ _ s
  refine wpAny_bind (wpAny_of_eq (show Builtin.Builtins.bindParams "min" ["key", "default"] 0 ⟨[], []⟩ = pure [none, none] from rfl) ?_)
  show wpAny _ A.in1 (newTuple [a, b] >>= _) _ _ s
  refine wpAny_bind (wpAny_newObj_type ?_)
  refine wpAny_bind (wpAny_mono h (fun it s₂ h₂ => ?_) fun _ _ e => e)
  obtain ⟨I, fp, wr, G, n, P, St, H, bt, rfl, W, hst, hfp, hn, hw, hkeep, hcmp, hQ⟩ := h₂
  refine wpAny_bind (wpAny_newObj_type ?_)
  have hSf : s₂.heap.objs.size ∉ fp := fun hm => Nat.lt_irrefl _ (hfp _ hm)
  rw [hname]
  refine wpAny_pure ⟨plainId_quiet F.plain_min_loop _, codeAny_min_loop_firstH W H hw bt hcmp s₂.heap.objs.size hSf (fresh_in hkeep) _ hn (fun b o e => Heap.get?_push_of_some _ (hkeep b o e)) (W.frame 0 s₂ _ s₂.toks hst (Nat.le_refl _) fun b _ o e => Heap.get?_push_of_some _ e) (Heap.get?_push_size _ rfl) fun v s' hP hm => ?_⟩
  exact hQ v s' hP (Moved.drop_new (tk := s₂.toks) hm (Nat.le_refl _))
theorem min_two_data {a b : Value} {da db : PyData} {as bs : List Addr} {Q : Value → Shared → Prop} (hh : A.handled = none) (ra : Reads s.heap a da as) (rb : Reads s.heap b db bs) (ha : W.AlikeAll [da, db]) (hu : A.units + 1 + PyData.depthAll [da, db] < cLine)
    (h : ∀ h' tk, (∀ c o, s.heap.get? c = some o → h'.get? c = some o) → Q (if W.dataLt db da = true then b else a) { s with heap := h', toks := tk }) : wpAny (model prog w) A (call (.builtin "min") [a, b]) Q E s := by
  have hT : (s.heap.push { cls := .type "tuple", data := .seq #[a, b] }).IsTuple s.heap.objs.size #[a, b] := ⟨_, Heap.get?_push_size _ rfl, rfl, 0, rfl⟩
  have hr : ReadsAll (s.heap.push { cls := .type "tuple", data := .seq #[a, b] }) (#[a, b] : Array Value).toList [da, db] (as ++ (bs ++ [])) := .cons (W.reads_keeps (fun _ _ e => Heap.get?_push_of_some _ e) ra) (.cons (W.reads_keeps (fun _ _ e => Heap.get?_push_of_some _ e) rb) .nil)
  refine call_min_twoH (W.iter_tupleW (A := A.in1) hh hT fun s₂ e WW st hfp hw hk => ?_)
  refine ⟨_, _, _, _, _, _, _, s.heap.push { cls := .type "tuple", data := .seq #[a, b] }, _, rfl, WW, st, hfp, Nat.succ_pos 1, hw, hk, W.cmpIn_lt (A := A.in1) (s := { s with heap := s.heap.push { cls := .type "tuple", data := .seq #[a, b] } }) hr ha (by show A.units + 1 + _ < _; exact hu), fun v s' hP m => ?_⟩
  obtain ⟨h', tk, rfl, hk'⟩ := W.moved_old (s := { s with heap := s.heap.push { cls := .type "tuple", data := .seq #[a, b] } }) e rfl m
  have hv : (if W.dataLt db da = true then b else a) = v := by
    have hP : (#[a, b] : Array Value)[(if W.dataLt db da = true then 1 else 0)]? = some v := hP
    cases q : W.dataLt db da with
    | true =>
      rw [q, if_pos rfl] at hP
      rw [if_pos rfl]
      exact Option.some.inj hP
    | false =>
      rw [q, if_neg (by simp)] at hP
      rw [if_neg (by simp)]
      exact Option.some.inj hP
  rw [← hv]
  exact h h' tk fun c o e => hk' c o (Heap.get?_push_of_some _ e)
end
end PySem
namespace DL
open PySem PySem.Spec L2
open PyProof.Rows hiding St
section
variable {X : Cx} {o e f : Expr} {pos cpos apos : Pos} {td ty tx : TE}
def tNGet2 (X : Cx) (td ty tx : TE) : TE := fun σ H Q => td σ H fun x H1 => ∃ a es0, x = .ref a ∧ NDic X H1 a es0 ∧ ty σ H1 fun y H2 => tx σ H2 fun z H3 => ∃ b es k, y = .ref b ∧ NDic X H3 a es ∧ KeyIsV X H3 (.ref b) k ∧ k.depth ≤ 8 ∧ Q ((luE es k).getD z) H3
theorem pe_nget2 (hu : X.A.units + 9 < cLine) (ho : PE X o td) (he : PE X e ty) (hf : PE X f tx) (m : M2 X o "get" apos e f cpos) : PE X (.Call (.Attribute o "get" apos) [e, f] [] cpos) (tNGet2 X td ty tx) := by
  refine ⟨fun pins s σ H Q I h => ?_⟩
  refine wpAny_Call_method m.base m.few m.line PySem.F.plainAttrs_dict PySem.F.slot_dict_get PySem.F.type_dict_get (thn (ho.run pins s σ H _ I h) fun u s1 ⟨x, H1, I1, rx, a, es0, ex, n0, q1⟩ => ?_)
  subst ex
  obtain rfl : u = Value.ref a := rx
  refine ⟨n_typeIs I1 n0, n_noDict I1 n0, ?_⟩
  rw [m.trees]
  refine Calls.callWith_builtin rfl (Calls.evalArgs_plain (Calls.spliced_cons (thn (he.run pins s1 σ H1 _ I1 q1) fun iv s2 ⟨y, H2, I2, ry, q2⟩ =>
    Calls.spliced_cons (thn (hf.run pins s2 σ H2 _ I2 q2) fun fv s3 ⟨z, H3, I3, rz, b, es, k, ey, n, hk, h8, q3⟩ => Calls.spliced_nil ?_))))
  subst ey
  exact n_get2 hu I3 n hk h8 ry rz fun w' s4 I4 rw' => ⟨_, H3, I4, rw', q3⟩

theorem wpAny_Dict_pairsX {prog : Program} {w : World} {K : Type} [DecidableEq K] {knd : HeapKind prog w K} {A : Around} {E : Value → Shared → Prop} {s : Shared} {env : PySem.Env} {keys : List (Option Expr)} {values : List Expr} {pos : Pos} {pairs : List (Sem Value × Sem Value)} {Q : Value → Shared → Prop} (hu : knd.room A)
    (hshape : (evalEachOpt keys env).zip ((evalEach values env).map fun v => do let x ← v; standAt pos; pure x) = pairs.map fun p => (some p.1, p.2)) (h0 : pairs ≠ []) (hlen : pairs.length ≤ 15)
    (h : wpAny (model prog w) A (evalPairs pairs) (fun vs s₁ => ∃ ps, CarriesH knd s₁.heap vs ps ∧ s₁.heap.DictOfH knd s.heap.objs.size [] ∧
      ∀ h' tk, h'.DictOfH knd s.heap.objs.size (storedAllH [] ps) → Heap.SameBut s.heap.objs.size s₁.heap h' → Q (.ref s.heap.objs.size) { s₁ with heap := h', toks := tk }) E
      { s with heap := s.heap.push { cls := .type "dict", data := .dict #[] } }) :
    wpAny (model prog w) A (eval (.Dict keys values pos) env) Q E s := by
  rw [arm_eval_Dict, hshape, dictDisplay_pairs pairs h0 (by omega)]
  exact wpAny_bind (wpAny_standAt (wpAny_bind (wpAny_subDictH (knd := knd) (Q := fun d s' => wpAny (model prog w) A (pure (Value.ref d)) Q E s') hu hlen
    (wpAny_mono h (fun vs s₁ h₁ => by obtain ⟨ps, hc, hm, hq⟩ := h₁; exact ⟨ps, hc, hm, fun h' tk a b => wpAny_pure (hq h' tk a b)⟩) fun _ _ e => e))))
/-! ### {} and {k: v} -/
def tNNew (X : Cx) : TE := fun _ H Q => ∀ p, H p = none → Q (.ref p) (upd H p (dictN (zOf X) p []))
theorem n_empty {pins : List (Addr × Obj)} {σ : L2.St} {H : Hp} {s : Shared} (I : Inv X pins σ H s) : ObjOk X.prog X.w (upd H s.heap.objs.size (dictN (zOf X) s.heap.objs.size [])) (s.heap.push { cls := .type "dict", data := .dict #[] }) s.heap.objs.size (dictN (zOf X) s.heap.objs.size []) :=
  dictN_ok List.nodup_nil (Nat.zero_le _) (beq_eq_false_iff_ne.mpr (Nat.ne_of_gt I.big)) (fun _ h => nomatch h) (Heap.get?_push_size _ rfl) ⟨rfl, rfl, rfl⟩ rfl .nil rfl
theorem n_laid {pins : List (Addr × Obj)} {σ : L2.St} {H : Hp} {s : Shared} (I : Inv X pins σ H s) : Inv X pins σ (upd H s.heap.objs.size (dictN (zOf X) s.heap.objs.size [])) { s with heap := s.heap.push { cls := .type "dict", data := .dict #[] } } :=
  I.laid (a := s.heap.objs.size) (t' := s.toks) (fun _ _ q => Heap.get?_push_of_some _ q) (Nat.le_refl _) (n_empty I)
theorem pe_nnew : PE X (.Dict [] [] pos) (tNNew X) := ⟨fun pins s σ H Q I h =>
  wpAny_Dict_empty ⟨.ref s.heap.objs.size, _, n_laid I, rfl, h _ (I.hok.fresh (Nat.le_refl _))⟩⟩
def tNDisp (X : Cx) (tk tv : TE) : TE := fun σ H Q => ∀ p, H p = none → tk σ (upd H p (dictN (zOf X) p [])) fun x H1 => tv σ H1 fun y H2 => H2 p = some (dictN (zOf X) p []) ∧ ∃ b k, x = .ref b ∧ KeyIsV X H2 (.ref b) k ∧ k.depth ≤ 8 ∧ Q (.ref p) (upd H2 p (dictN (zOf X) p [(k, b, y)]))
theorem pe_ndisp {ke ve : Expr} {tk tv : TE} (hu : X.A.units + 9 < cLine) (hk : PE X ke tk) (hv : PE X ve tv) : PE X (.Dict [some ke] [ve] pos) (tNDisp X tk tv) := by
  refine ⟨fun pins s σ H Q I h => ?_⟩
  have hn := I.hok.fresh (Nat.le_refl s.heap.objs.size)
  have I1 := n_laid I
  have hp : PPs X pos [some ke] [ve] [(tk, tv)] := pps_cons hk hv pps_nil
  refine wpAny_Dict_pairsX (knd := nestedKind X.prog X.w) (pairs := pairTrees [some ke] [ve] X.env pos) (by show X.A.units + 8 < cLine; omega) (zip_pairTrees [some ke] [ve] X.env pos rfl rfl) ?_ ?_ ?_
  · intro he
    have := pairTrees_length [some ke] [ve] X.env pos rfl rfl
    rw [he] at this
    cases this
  · rw [pairTrees_length [some ke] [ve] X.env pos rfl rfl]
    exact Nat.succ_le_succ (Nat.zero_le 14)
  refine thn (hp.run pins _ σ _ (fun ps H2 => ∃ x y b k, ps = [(x, y)] ∧ H2 s.heap.objs.size = some (dictN (zOf X) s.heap.objs.size []) ∧ x = .ref b ∧ KeyIsV X H2 (.ref b) k ∧ k.depth ≤ 8 ∧ Q (.ref s.heap.objs.size) (upd H2 s.heap.objs.size (dictN (zOf X) s.heap.objs.size [(k, b, y)]))) I1 ?_) fun ws s2 ⟨ps, H2, I2, rel, x, y, b, k, ep, hd, ex, hkk, h8, q2⟩ => ?_
  · show tk σ _ fun x H1 => tv σ H1 fun y H2 => _
    have h := h _ hn
    unfold tNDisp at h
    exact (show tk σ _ _ → tk σ _ _ from fun z => z) (by
      have key : ∀ (x : V) (H1 : Hp), (tv σ H1 fun y H2 => H2 s.heap.objs.size = some (dictN (zOf X) s.heap.objs.size []) ∧ ∃ b k, x = .ref b ∧ KeyIsV X H2 (.ref b) k ∧ k.depth ≤ 8 ∧ Q (.ref s.heap.objs.size) (upd H2 s.heap.objs.size (dictN (zOf X) s.heap.objs.size [(k, b, y)]))) = (tv σ H1 fun y H2 => H2 s.heap.objs.size = some (dictN (zOf X) s.heap.objs.size []) ∧ ∃ b k, x = .ref b ∧ KeyIsV X H2 (.ref b) k ∧ k.depth ≤ 8 ∧ Q (.ref s.heap.objs.size) (upd H2 s.heap.objs.size (dictN (zOf X) s.heap.objs.size [(k, b, y)]))) := fun _ _ => rfl
      have e2 : (fun x H1 => tv σ H1 fun y H2 => tPairs [] σ H2 fun ps H3 => (fun ps H2 => ∃ x y b k, ps = [(x, y)] ∧ H2 s.heap.objs.size = some (dictN (zOf X) s.heap.objs.size []) ∧ x = .ref b ∧ KeyIsV X H2 (.ref b) k ∧ k.depth ≤ 8 ∧ Q (.ref s.heap.objs.size) (upd H2 s.heap.objs.size (dictN (zOf X) s.heap.objs.size [(k, b, y)]))) ((x, y) :: ps) H3) = (fun x H1 => tv σ H1 fun y H2 => H2 s.heap.objs.size = some (dictN (zOf X) s.heap.objs.size []) ∧ ∃ b k, x = .ref b ∧ KeyIsV X H2 (.ref b) k ∧ k.depth ≤ 8 ∧ Q (.ref s.heap.objs.size) (upd H2 s.heap.objs.size (dictN (zOf X) s.heap.objs.size [(k, b, y)]))) := by
        funext x H1
        congr 1
        funext y H2
        show (∃ x' y' b k, [(x, y)] = [(x', y')] ∧ _) = _
        refine propext ⟨fun ⟨x', y', b, k, e, h1, h2, h3, h4, h5⟩ => ?_, fun ⟨h1, b, k, h2, h3, h4, h5⟩ => ⟨x, y, b, k, rfl, h1, h2, h3, h4, h5⟩⟩
        cases e
        exact ⟨h1, b, k, h2, h3, h4, h5⟩
      exact e2 ▸ h)
  · subst ep ex
    obtain ⟨⟨wk, wv⟩, rfl, r1, r2⟩ : ∃ w, ws = [w] ∧ RelV (.ref b) w.1 ∧ RelV y w.2 := by
      cases rel with
      | cons r rr => cases rr; exact ⟨_, rfl, r.1, r.2⟩
    obtain rfl : wk = Value.ref b := r1
    obtain ⟨h1, h2, h3, h4, us, g1, g2⟩ := nd_heap I2 ⟨.inl hd, fun _ h => nomatch h⟩
    cases g1
    refine ⟨[(k, b, wv)], ⟨rfl, rfl, ⟨hkk pins σ s2 _ I2 rfl, h8⟩, trivial⟩, g2, fun h' tk' dd' hs => ⟨.ref s.heap.objs.size, _, ?_, rfl, q2⟩⟩
    obtain ⟨q, en, ep, hq, y2, y3, y4, y6, y5⟩ := dd'
    refine d_write I2 (by rw [hd]; exact True.intro) hs ⟨q, hq⟩ (dictN_ok (us := [wv]) (by simp) (by show 1 ≤ sizeLine; decide) h3 (fun e he => ?_) hq y2 y3 (.cons r2 .nil) y4)
    rw [List.mem_singleton.mp he]
    exact h8
end
end DL

set_option Elab.async false
set_option linter.all false
set_option maxRecDepth 100000
set_option maxHeartbeats 2000000
/-! # Dicts whose keys are nested tuples, by data -/
namespace DL
open PySem PySem.Spec L2
open PyProof.Rows hiding St
/-- a heap of one object many times over -/
def manyH (c : Nat) (q : Str) : Heap := { objs := Array.replicate (c + 1) { cls := .none, data := .fields #[.none, .str q 0] } }
theorem manyH_at {c a : Nat} {q : Str} {o : Obj} (h : (manyH c q).get? a = some o) : o = { cls := .none, data := .fields #[.none, .str q 0] } := by
  unfold manyH Heap.get? at h
  by_cases hl : a < c + 1
  · simp [Array.getElem?_replicate, hl] at h
    exact h.symm
  · simp [Array.getElem?_replicate, hl] at h
theorem dictN_ne_code {K : Zx} {a : Addr} {es : KEs} {c : Addr} {q : Str} (z : dictN K a es = LamX.CodeO c q) : False := by
  unfold dictN LamX.CodeO at z
  have z := congrFun (HO.ext.inj z) (manyH c q)
  have hr : ∃ (oc : Obj) (vs : Array Value) (t : Tok), (manyH c q).get? c = some oc ∧ oc.data = .fields vs ∧ vs[1]? = some (.str q t) :=
    ⟨{ cls := .none, data := .fields #[.none, .str q 0] }, #[.none, .str q 0], 0, by unfold manyH Heap.get?; simp, rfl, rfl⟩
  rw [← z] at hr
  obtain ⟨_, _, _, _, o, en, ep, us, h1, _, h2, _⟩ := hr
  rw [manyH_at h1] at h2
  cases h2
/-- a key of such a dict: a tuple, not too deep -/
def keyT : D → Option NestedKey
  | .tup l => match keyD (.tup l) with
    | some k => if k.depth ≤ 8 then some k else none
    | none => none
  | _ => none
theorem keyT_some {d : D} {k : NestedKey} (h : keyT d = some k) : ∃ l, d = .tup l ∧ keyD d = some k ∧ k.depth ≤ 8 := by
  cases d <;> simp only [keyT, reduceCtorEq] at h
  case tup l =>
    split at h
    · rename_i k' hk
      split at h
      · rename_i h8
        cases h
        exact ⟨l, rfl, hk, h8⟩
      · cases h
    · cases h
def luN : List (D × D) → NestedKey → Option D
  | [], _ => none
  | (a, v) :: r, k => if keyD a = some k then some v else luN r k
def putN (kvs : List (D × D)) (d : D) (k : NestedKey) (v : D) : List (D × D) :=
  if (luN kvs k).isSome = true then kvs.map (fun p => if keyD p.1 = some k then (p.1, v) else p) else kvs ++ [(d, v)]
def dNAt (o : D) (st : Sto) : Option (Nat × List (D × D)) := match o with
  | .ref n => match st[n]? with
    | some (.dN kvs) => some (n, kvs)
    | _ => none
  | _ => none
/-- .. to be read: it may have been walked -/
def dNR (o : D) (st : Sto) : Option (Nat × List (D × D)) := match o with
  | .ref n => match st[n]? with
    | some (.dN kvs) => some (n, kvs)
    | some (.fN kvs) => some (n, kvs)
    | _ => none
  | _ => none
def gDctN : G D := fun _ st => .ok (.ref st.length) (st ++ [.dN []])
def gDisN (fk fv : G D) : G D := fun ρ st => match (fk ρ st).bind fun k s1 => (fv ρ s1).bind fun v s2 => Out.ok (k, v) s2 with
  | .ok (k, v) s2 => match keyT k with
    | some _ => .ok (.ref s2.length) (s2 ++ [.dN [(k, v)]])
    | none => .bad
  | _ => .bad
def mIxN (o i : D) (st : Sto) : Option D := match dNR o st, keyT i with
  | some (_, kvs), some k => luN kvs k
  | _, _ => none
def mInN (neg : Bool) (i o : D) (st : Sto) : Option D := match dNR o st, keyT i with
  | some (_, kvs), some k => some (.bl (if neg then !(luN kvs k).isSome else (luN kvs k).isSome))
  | _, _ => none
def gGetN (fo fi fx : G D) : G D := fun ρ st => (fo ρ st).bind fun o s1 => match dNR o s1 with
  | none => .bad
  | some _ => (fi ρ s1).bind fun i s2 => (fx ρ s2).bind fun x s3 => match dNR o s3, keyT i with
    | some (_, kvs), some k => .ok ((luN kvs k).getD x) s3
    | _, _ => .bad
def sPutN (fo fi fv : G D) : G Fl := fun ρ st => (fv ρ st).bind fun v s1 => (fo ρ s1).bind fun o s2 => (fi ρ s2).bind fun i s3 => match dNAt o s3, keyT i with
  | some (n, kvs), some k => if kvs.length < 16000000 then .ok (.nx ρ) (s3.set n (.dN (putN kvs i k v))) else .bad
  | _, _ => .bad
def gTruN (f : G D) : G Bool := fun ρ st => (f ρ st).bind fun d s1 => match dNR d s1 with
  | some (_, kvs) => .ok (!kvs.isEmpty) s1
  | none => .bad
section
variable {X : Cx} {β : Bx} {H : Hp}
mutual
theorem rep_key {pins : List (Addr × Obj)} {σ : L2.St} {s : Shared} (I : Inv X pins σ H s) : ∀ (d : D) (v : V) (u : Value) (k : NestedKey), Rep (zOf X) β H v d → RelV v u → keyD d = some k → NestedIs s.heap k u
  | .non, _, _, _, r, ru, h => by
    cases r
    cases ru
    simp only [keyD, Option.some.injEq] at h
    subst h
    exact .none
  | .bl b, _, _, _, r, ru, h => by
    cases r
    cases ru
    simp only [keyD, Option.some.injEq] at h
    subst h
    exact .bool rfl
  | .int i, _, _, _, r, ru, h => by
    cases r
    obtain ⟨t, rfl⟩ := ru
    simp only [keyD, Option.some.injEq] at h
    subst h
    exact .int _ _
  | .str x, _, _, _, r, ru, h => by
    cases r
    obtain ⟨t, rfl⟩ := ru
    simp only [keyD, Option.some.injEq] at h
    subst h
    exact .text _ _
  | .tup l, _, _, _, r, ru, h => by
    cases r with
    | tup hs ha hl =>
      cases ru
      rw [keyD, Option.map_eq_some_iff] at h
      obtain ⟨ks, h1, rfl⟩ := h
      obtain ⟨its, rv, ⟨o, ho, hc, n, hd⟩, hz⟩ := I.tuple hs
      exact .tup ho hc hd (by simpa using reps_key I l _ _ ks ha rv h1)
  | .lst _, _, _, _, r, ru, h => by simp [keyD] at h
  | .ro _, _, _, _, r, ru, h => by simp [keyD] at h
  | .ref _, _, _, _, r, ru, h => by simp [keyD] at h
  | .raw _, _, _, _, r, ru, h => by simp [keyD] at h
  | .clo _ _, _, _, _, r, ru, h => by simp [keyD] at h
theorem reps_key {pins : List (Addr × Obj)} {σ : L2.St} {s : Shared} (I : Inv X pins σ H s) : ∀ (ds : List D) (vs : List V) (us : List Value) (ks : List NestedKey), Reps (zOf X) β H vs ds → Vals vs us → keysD ds = some ks → NestedAll s.heap ks us
  | [], _, _, _, r, ru, h => by
    cases r
    cases ru
    simp only [keysD, Option.some.injEq] at h
    subst h
    exact .nil
  | d :: ds, _, _, _, r, ru, h => by
    cases r with
    | cons r1 r2 =>
      cases ru with
      | cons u1 u2 =>
        rw [keysD] at h
        split at h
        · rename_i k ks h1 h2
          cases h
          exact .cons (rep_key I d _ _ k r1 u1 h1) (reps_key I ds _ _ ks r2 u2 h2)
        · cases h
end
theorem key_isV {d : D} {v : V} {k : NestedKey} (r : Rep (zOf X) β H v d) (h : keyD d = some k) : KeyIsV X H v k := fun pins σ s u I ru => rep_key I d v u k r ru h
/-- what holds of a dict of the store -/
structure NRel (X : Cx) (β : Bx) (H : Hp) (es : KEs) (kvs : List (D × D)) : Prop where
  len : es.length = kvs.length
  key : kvs.map (fun p => keyD p.1) = es.map (fun e => some e.1)
  r1 : Reps (zOf X) β H (es.map fun e => V.ref e.2.1) (kvs.map (·.1))
  r2 : Reps (zOf X) β H (es.map (·.2.2)) (kvs.map (·.2))
theorem NRel.move {β' : Bx} {H' : Hp} {es : KEs} {kvs : List (D × D)} (n : NRel X β H es kvs) (m : Mv β H β' H') : NRel X β' H' es kvs := ⟨n.len, n.key, Reps.move m _ _ n.r1, Reps.move m _ _ n.r2⟩
theorem NRel.keys : ∀ {es : KEs} {kvs : List (D × D)}, NRel X β H es kvs → ∀ e ∈ es, KeyIsV X H (.ref e.2.1) e.1
  | [], _, _, e, he => by cases he
  | e0 :: es, [], n, _, _ => by cases n.len
  | e0 :: es, p :: kvs, n, e, he => by
    obtain ⟨n1, n2, n3, n4⟩ := n
    simp only [List.map_cons, List.cons.injEq] at n2
    cases n3 with
    | cons q1 q2 =>
      cases n4 with
      | cons z1 z2 =>
        rcases List.mem_cons.mp he with rfl | he
        · exact key_isV q1 n2.1
        · exact NRel.keys ⟨by simpa using n1, n2.2, q2, z2⟩ e he
theorem NRel.lu {k : NestedKey} : ∀ {es : KEs} {kvs : List (D × D)}, NRel X β H es kvs → match luN kvs k with
    | some d => ∃ v, luE es k = some v ∧ Rep (zOf X) β H v d
    | none => luE es k = none
  | [], [], _ => rfl
  | [], _ :: _, n => by cases n.len
  | _ :: _, [], n => by cases n.len
  | e :: es, (kd, d) :: kvs, n => by
    obtain ⟨n1, n2, n3, n4⟩ := n
    simp only [List.map_cons, List.cons.injEq] at n2
    cases n3 with
    | cons q1 q2 =>
      cases n4 with
      | cons z1 z2 =>
        unfold luN luE
        rw [n2.1, List.find?_cons]
        by_cases h : e.1 = k
        · rw [if_pos (by rw [h])]
          simp only [h, decide_true]
          exact ⟨_, rfl, z1⟩
        · rw [if_neg (by intro z; exact h (Option.some.inj z))]
          simp only [h, decide_false]
          exact NRel.lu ⟨by simpa using n1, n2.2, q2, z2⟩
theorem NRel.isSome {k : NestedKey} {es : KEs} {kvs : List (D × D)} (n : NRel X β H es kvs) : (luN kvs k).isSome = (luE es k).isSome := by
  have h := n.lu (k := k)
  cases q : luN kvs k with
  | none =>
    rw [q] at h
    rw [show luE es k = none from h]
    rfl
  | some d =>
    rw [q] at h
    obtain ⟨v, hv, _⟩ := h
    rw [hv]
    rfl
theorem NRel.maps {k : NestedKey} {v : V} {d : D} (rv : Rep (zOf X) β H v d) : ∀ {es : KEs} {kvs : List (D × D)}, NRel X β H es kvs → NRel X β H (es.map fun x => if x.1 = k then (x.1, x.2.1, v) else x) (kvs.map fun p => if keyD p.1 = some k then (p.1, d) else p)
  | [], [], _ => ⟨rfl, rfl, .nil, .nil⟩
  | [], _ :: _, n => by cases n.len
  | _ :: _, [], n => by cases n.len
  | e :: es, (kd, d0) :: kvs, n => by
    obtain ⟨n1, n2, n3, n4⟩ := n
    simp only [List.map_cons, List.cons.injEq] at n2
    cases n3 with
    | cons q1 q2 =>
      cases n4 with
      | cons z1 z2 =>
        obtain ⟨m1, m2, m3, m4⟩ := NRel.maps (k := k) rv (es := es) (kvs := kvs) ⟨by simpa using n1, n2.2, q2, z2⟩
        simp only [List.map_cons]
        by_cases h : e.1 = k
        · simp only [if_pos h, n2.1, if_pos (congrArg some h)]
          exact ⟨by simpa using m1, by simp only [List.map_cons, n2.1, m2], .cons q1 m3, .cons rv m4⟩
        · simp only [if_neg h, n2.1, if_neg (fun z : some e.1 = some k => h (Option.some.inj z))]
          exact ⟨by simpa using m1, by simp only [List.map_cons, n2.1, m2], .cons q1 m3, .cons z1 m4⟩
theorem NRel.put {b : Addr} {k : NestedKey} {v : V} {d kd : D} (rk : Rep (zOf X) β H (.ref b) kd) (hk : keyD kd = some k) (rv : Rep (zOf X) β H v d) {es : KEs} {kvs : List (D × D)} (n : NRel X β H es kvs) : NRel X β H (putE es k b v) (putN kvs kd k d) := by
  unfold putE putN
  rw [n.isSome]
  by_cases h : (luE es k).isSome = true
  · rw [if_pos h, if_pos h]
    exact n.maps rv
  · rw [if_neg h, if_neg h]
    refine ⟨by rw [List.length_append, List.length_append, n.len]; rfl, by rw [List.map_append, List.map_append, n.key]; simp [hk], ?_, ?_⟩
    · rw [List.map_append, List.map_append]
      exact n.r1.append (.cons rk .nil)
    · rw [List.map_append, List.map_append]
      exact n.r2.append (.cons rv .nil)
theorem dNAt_ok {st : Sto} {o : D} {v : V} {n : Nat} {kvs : List (D × D)} (h : dNAt o st = some (n, kvs)) (r : Rep (zOf X) β H v o) (S : StoOk (zOf X) β H st) :
    o = .ref n ∧ st[n]? = some (.dN kvs) ∧ ∃ a es, v = .ref a ∧ β.lo[n]? = some a ∧ H a = some (dictN (zOf X) a es) ∧ NRel X β H es kvs := by
  unfold dNAt at h
  split at h
  · rename_i m
    split at h
    · rename_i l' hl
      cases h
      cases r with
      | ref hm =>
        obtain ⟨so, hso, rel⟩ := S.get hm
        rw [hl] at hso
        cases hso
        obtain ⟨es, hH, h1, h2, h3, h4⟩ := rel
        exact ⟨rfl, hl, _, es, rfl, hm, hH, ⟨h1, h2, h3, h4⟩⟩
    · cases h
  · cases h
theorem dNR_ok {st : Sto} {o : D} {v : V} {n : Nat} {kvs : List (D × D)} (h : dNR o st = some (n, kvs)) (r : Rep (zOf X) β H v o) (S : StoOk (zOf X) β H st) :
    o = .ref n ∧ (st[n]? = some (.dN kvs) ∨ st[n]? = some (.fN kvs)) ∧ ∃ a es, v = .ref a ∧ β.lo[n]? = some a ∧ NDic X H a es ∧ NRel X β H es kvs := by
  unfold dNR at h
  split at h
  · rename_i m
    split at h
    · rename_i l' hl
      cases h
      cases r with
      | ref hm =>
        obtain ⟨so, hso, rel⟩ := S.get hm
        rw [hl] at hso
        cases hso
        obtain ⟨es, hH, h1, h2, h3, h4⟩ := rel
        have rr : NRel X β H es kvs := ⟨h1, h2, h3, h4⟩
        exact ⟨rfl, .inl hl, _, es, rfl, hm, ⟨.inl hH, rr.keys⟩, rr⟩
    · rename_i l' hl
      cases h
      cases r with
      | ref hm =>
        obtain ⟨so, hso, rel⟩ := S.get hm
        rw [hl] at hso
        cases hso
        obtain ⟨o, es, hH, h1, h2, h3, h4⟩ := rel
        have rr : NRel X β H es kvs := ⟨h1, h2, h3, h4⟩
        exact ⟨rfl, .inr hl, _, es, rfl, hm, ⟨.inr ⟨o, hH⟩, rr.keys⟩, rr⟩
    · cases h
  · cases h
theorem keyT_ref {d : D} {k : NestedKey} {v : V} (h : keyT d = some k) (r : Rep (zOf X) β H v d) : ∃ b, v = .ref b ∧ KeyIsV X H (.ref b) k ∧ k.depth ≤ 8 ∧ keyD d = some k := by
  obtain ⟨l, rfl, h1, h8⟩ := keyT_some h
  have q := key_isV r h1
  cases r with | tup hs ha hl => exact ⟨_, rfl, q, h8, h1⟩
end
theorem hu9_of {X : Cx} {k : Nat} (hr : Room k X.A) : X.A.units + 9 < cLine := by
  have := hu64 hr
  omega
section
variable {X : Cx} {W : WX} {pos pos' apos cpos : Pos} {o i e f value : Expr} {fo fi fv fx : G D} {k : Nat}
theorem de_ixN (hr : Room k X.A) (ho : DE X W o fo) (hi : DE X W i fi) (hs : NoSl i := by exact fun _ _ => rfl) : DE X W (.Subscript o i pos) (gOp mIxN fo fi) := by
  refine PEmono (pe_nget (hu9_of hr) ho hi hs) fun σ H Q h => ?_
  obtain ⟨β, ρ, st, hρ, hs, h⟩ := h
  refine tD_intro hρ hs (Out.sat_bind h) (fun d s1 h1 v β1 H1 e1 S1 r1 => ?_) fun _ _ q => q
  refine tD_intro (hρ.ext e1) S1 (Out.sat_bind h1) (fun d2 s2 h2 v2 β2 H2 e2 S2 r2 => ?_) fun _ _ q => q.ext e1
  obtain ⟨d3, q, p⟩ := oout_sat h2
  unfold mIxN at q
  split at q
  · rename_i n kvs kk hd hk
    obtain ⟨rfl, hst, a, es, rfl, hm, nd, rr⟩ := dNR_ok hd (Rep.ext e2 _ _ r1) S2
    obtain ⟨b, rfl, hkv, h8, _⟩ := keyT_ref hk r2
    have z := rr.lu (k := kk)
    rw [q] at z
    obtain ⟨v, z1, z2⟩ := z
    exact ⟨a, b, es, kk, v, rfl, rfl, nd, hkv, h8, z1, p v β2 H2 (e1.trans e2) S2 z2⟩
  · cases q
theorem od_inN (neg : Bool) : OpD (zOf X) (rNIn X neg) (mInN neg) := by
  intro β H st x y dx dy d Q rx ry S e q
  unfold mInN at e
  split at e
  · rename_i n kvs kk hd hk
    cases e
    obtain ⟨rfl, hst, a, es, rfl, hm, nd, rr⟩ := dNR_ok hd ry S
    obtain ⟨b, rfl, hkv, h8, _⟩ := keyT_ref hk rx
    refine ⟨a, b, es, kk, rfl, rfl, nd, hkv, h8, ?_⟩
    rw [← rr.isSome]
    exact q _ _ (Same.refl H) (.bl _)
  · cases e
theorem de_getN (hr : Room k X.A) (ho : DE X W o fo) (hi : DE X W e fi) (hf : DE X W f fx) (m : M2 X o "get" apos e f cpos) : DE X W (.Call (.Attribute o "get" apos) [e, f] [] cpos) (gGetN fo fi fx) := by
  refine PEmono (pe_nget2 (hu9_of hr) ho hi hf m) fun σ H Q h => ?_
  obtain ⟨β, ρ, st, hρ, hs, h⟩ := h
  refine tD_intro hρ hs (Out.sat_bind h) (fun d s1 h1 v β1 H1 e1 S1 r1 => ?_) fun _ _ q => q
  split at h1
  · exact h1.elim
  · rename_i z hz
    obtain ⟨n0, kvs0⟩ := z
    obtain ⟨rfl, hst0, a, es0, rfl, hm0, nd0, rr0⟩ := dNR_ok hz r1 S1
    refine ⟨a, es0, rfl, nd0, ?_⟩
    refine tD_intro (hρ.ext e1) S1 (Out.sat_bind h1) (fun d2 s2 h2 v2 β2 H2 e2 S2 r2 => ?_) fun _ _ q => q.ext e1
    refine tD_intro ((hρ.ext e1).ext e2) S2 (Out.sat_bind h2) (fun d3 s3 h3 v3 β3 H3 e3 S3 r3 => ?_) fun _ _ q => (q.ext e1).ext e2
    split at h3
    · rename_i n kvs kk hd hk
      obtain ⟨e4, hst, a', es, e5, hm, nd, rr⟩ := dNR_ok hd (Rep.ext e3 _ _ (Rep.ext e2 _ _ r1)) S3
      cases e4
      cases e5
      obtain ⟨b, rfl, hkv, h8, _⟩ := keyT_ref hk (Rep.ext e3 _ _ r2)
      have z := rr.lu (k := kk)
      refine ⟨b, es, kk, rfl, nd, hkv, h8, ?_⟩
      cases q : luN kvs kk with
      | none =>
        rw [q] at z h3
        rw [z]
        exact h3 v3 β3 H3 ((e1.trans e2).trans e3) S3 r3
      | some d =>
        rw [q] at z h3
        obtain ⟨v, z1, z2⟩ := z
        rw [z1]
        exact h3 v β3 H3 ((e1.trans e2).trans e3) S3 z2
    · exact h3.elim
theorem ds_putN (hr : Room k X.A) (ho : DE X W o fo) (hi : DE X W i fi) (hv : DE X W value fv) (hs : swapsWith value (some (.Subscript o i pos')) pos.line X.env = pure false := by rfl) : DS X W (.Assign [.Subscript o i pos'] value pos) (sPutN fo fi fv) := by
  refine PSmono (ps_nput (hu9_of hr) ho hi hv hs) fun D' σ H h => ?_
  obtain ⟨β, ρ, st, hρ, hs, h⟩ := h
  refine tD_intro hρ hs (Out.sat_bind h) (fun dv s1 h1 v β1 H1 e1 S1 r1 => ?_) fun _ _ q => xs_x q
  refine tD_intro (hρ.ext e1) S1 (Out.sat_bind h1) (fun d_o s2 h2 vo β2 H2 e2 S2 r2 => ?_) fun _ _ q => (xs_x q).ext e1
  refine tD_intro ((hρ.ext e1).ext e2) S2 (Out.sat_bind h2) (fun di s3 h3 vi β3 H3 e3 S3 r3 => ?_) fun _ _ q => ((xs_x q).ext e1).ext e2
  split at h3
  · rename_i n kvs kk hd hk
    split at h3
    · rename_i hz
      obtain ⟨rfl, hst, a, es, rfl, hm, hH, rr⟩ := dNAt_ok hd (Rep.ext e3 _ _ r2) S3
      obtain ⟨b, rfl, hkv, h8, hkd⟩ := keyT_ref hk r3
      refine ⟨a, b, es, kk, rfl, rfl, hH, rr.keys, hkv, h8, by rw [rr.len, sizeLine_eq]; omega, ?_⟩
      have ew : Ext β3 H3 β3 (upd H3 a (dictN (zOf X) a (putE es kk b v))) := Ext.write hm hH (fun _ z => by unfold dictN at z; cases z) (fun _ _ z => by unfold dictN at z; cases z) (fun _ _ z => dictN_ne_code z) (fun _ z => by unfold dictN at z; cases z)
      have n2 := (rr.move ew.mv).put (kd := di) (k := kk) (b := b) (Rep.ext ew _ _ r3) hkd (Rep.ext ((e2.trans e3).trans ew) _ _ r1)
      exact h3 σ β3 _ (((e1.trans e2).trans e3).trans ew) (S3.write hm ew ⟨_, upd_same, n2.len, n2.key, n2.r1, n2.r2⟩) (((hρ.ext e1).ext e2).ext (e3.trans ew))
    · exact h3.elim
  · exact h3.elim
theorem de_dnewN : DE X W (.Dict [] [] pos) gDctN := by
  refine PEmono pe_nnew fun σ H Q h => ?_
  obtain ⟨β, ρ, st, hρ, hs, h⟩ := h
  intro p hp
  refine h (.ref p) (β.add p) _ (Ext.grow hp) (hs.grow hp ⟨[], upd_same, rfl, rfl, .nil, .nil⟩) (.ref ?_)
  rw [← hs.len]
  simp [Bx.add]
theorem dt_truN (ha : DE X W o fo) (he : ∀ whole, isTrue o X.env whole = (do let v ← whole; standAt o.pos; holding [v] (truthy v)) := by exact fun _ => rfl) : DT X W o (gTruN fo) := by
  refine ⟨fun pins s σ H Q I h => ?_⟩
  obtain ⟨β, ρ, st, hρ, hs, h⟩ := h
  refine isTrue_plain (thn (ha.run pins s σ H (fun v H' => ∃ a es k, v = .ref a ∧ NDic X H' a es ∧ k = (!es.isEmpty) ∧ Q k H') I ?_) fun u s1 ⟨x, H1, I1, rx, a, es, k, ex, n, ek, q⟩ => ?_) (he _)
  · refine tD_intro hρ hs (Out.sat_bind h) (fun d s1 h1 v β1 H1 e1 S1 r1 => ?_) fun _ _ q => q
    split at h1
    · rename_i n kvs hd
      obtain ⟨rfl, hst, a, es, rfl, hm, nd, rr⟩ := dNR_ok hd r1 S1
      refine ⟨a, es, _, rfl, nd, rfl, ?_⟩
      have : (!es.isEmpty) = (!kvs.isEmpty) := by
        have := rr.len
        cases es <;> cases kvs <;> simp at this ⊢
      rw [this]
      exact h1 β1 H1 e1 S1
    · exact h1.elim
  · subst ex ek
    obtain rfl : u = Value.ref a := rx
    exact n_truth I1 n fun s2 I2 => ⟨H1, I2, q⟩
theorem de_dispN {ke ve : Expr} {fk fv : G D} (hr : Room k X.A) (hk : DE X W ke fk) (hv : DE X W ve fv) : DE X W (.Dict [some ke] [ve] pos) (gDisN fk fv) := by
  refine PEmono (pe_ndisp (hu9_of hr) hk hv) fun σ H Q h => ?_
  obtain ⟨β, ρ, st, hρ, hs, h⟩ := h
  intro p hp
  have no : ∀ ps : Array Value, dictN (zOf X) p [] ≠ .tbl ps := fun _ z => by unfold dictN at z; cases z
  have S0 : StoOk (zOf X) (β.hold p) (upd H p (dictN (zOf X) p [])) st := hs.hold hp no
  have hρ0 : RepEnv (zOf X) (β.hold p) (upd H p (dictN (zOf X) p [])) σ ρ := ⟨hρ.1, fun i d q => let ⟨v, h1, h2⟩ := hρ.2 i d q; ⟨v, h1, Rep.move (Mv.hold hp) _ _ h2⟩⟩
  unfold gDisN at h
  cases q1 : fk ρ st with
  | bad => rw [q1] at h; exact h.elim
  | exn x s => rw [q1] at h; exact h.elim
  | ok dk s1 =>
    rw [q1] at h
    simp only [Out.bind_ok] at h
    cases q2 : fv ρ s1 with
    | bad => rw [q2] at h; exact h.elim
    | exn x s => rw [q2] at h; exact h.elim
    | ok dv s2 =>
      rw [q2] at h
      simp only [Out.bind_ok] at h
      split at h
      · rename_i kk hkk
        refine ⟨β.hold p, ρ, st, hρ0, S0, ?_⟩
        rw [q1]
        refine fun v1 β1 H1 e1 S1 r1 => ⟨β1, ρ, s1, hρ0.ext e1, S1, ?_⟩
        rw [q2]
        refine fun v2 β2 H2 e2 S2 r2 => ?_
        have e' := e1.trans e2
        have hnl : p ∉ β2.lo := by
          obtain ⟨new, z1, z2⟩ := e'.pre
          rw [z1]
          intro z
          rcases List.mem_append.mp z with z | z
          · exact (hs.nmem hp).1 z
          · obtain ⟨ps, z⟩ := z2 p z _ upd_same
            exact no ps z
        have hH' : H2 p = some (dictN (zOf X) p []) := e'.keep p _ (hs.nmem hp).1 upd_same no
        obtain ⟨b, rfl, hkv, h8, hkd⟩ := keyT_ref hkk (Rep.ext e2 _ _ r1)
        refine ⟨hH', b, kk, rfl, hkv, h8, ?_⟩
        obtain ⟨G1, G2, G3, G4⟩ := grow_held (K := zOf X) (o := dictN (zOf X) p []) (u := dictN (zOf X) p [(kk, b, v2)]) (so := .dN [(dk, dv)]) (xs := []) hp (fun z hz e => (hs.nmem hp).1 (e ▸ hz)) no (fun _ z => by unfold dictN at z; cases z) hnl e' hH' (fun _ z => by unfold dictN at z; cases z) (fun _ _ z => by unfold dictN at z; cases z) (fun _ z => by unfold dictN at z; cases z) (fun _ _ z => dictN_ne_code z) S2 fun mv =>
          ⟨[(kk, b, v2)], upd_same, rfl, by simp [hkd], .cons (Rep.move mv _ _ (Rep.ext e2 _ _ r1)) .nil, .cons (Rep.move mv _ _ r2) .nil⟩
        exact h (.ref p) _ _ G1 G2 (.ref G3)
      · exact h.elim
end
end DL

set_option Elab.async false
set_option linter.all false
set_option maxRecDepth 100000
set_option maxHeartbeats 2000000
/-! # Small sets of nested tuples of numbers: over the machine -/
namespace DL
open PySem PySem.Spec L2
open PyProof.Rows hiding St
mutual
def noTxt : NestedKey → Bool
  | .none => true
  | .num _ => true
  | .text _ => false
  | .tup ks => noTxts ks
def noTxts : List NestedKey → Bool
  | [] => true
  | k :: ks => noTxt k && noTxts ks
end
section
variable {P : Program} {w : World}
/-- is of no class statement, as asked of it -/
def ClassAt (P : Program) (w : World) (n : Nat) (s : Shared) (v : Value) : Prop := ∀ (A : Around) (E : Value → Shared → Prop) (Q : Bool → Shared → Prop), Q false s → wpAny (model P w) A (ofAClassStatement n v) Q E s
/-- its hash hangs on its value alone -/
def HashAt (P : Program) (w : World) (n : Nat) (s : Shared) (v : Value) : Prop := ∀ (A : Around) (E : Value → Shared → Prop) (Q : Bool → Shared → Prop), Q true s → wpAny (model P w) A (hashByValue n v) Q E s
theorem class_of {n : Nat} {s : Shared} {v : Value} (h : ofAClassStatement n v = pure false) : ClassAt P w n s v := fun A E Q q => by
  rw [h]
  exact wpAny_pure q
theorem hash_of {n : Nat} {s : Shared} {v : Value} (h : hashByValue n v = pure true) : HashAt P w n s v := fun A E Q q => by
  rw [h]
  exact wpAny_pure q
theorem class_tuple {n : Nat} {s : Shared} {a : Addr} {o : Obj} {vs : Array Value} {m : Nat} (ho : s.heap.get? a = some o) (hc : o.cls = .type "tuple") (hd : o.data = .seq vs m) (hq : ∀ v ∈ vs.toList, ClassAt P w n s v) : ClassAt P w (n + 1) s (.ref a) := fun A E Q h => by
  have hT : s.TypeIs (.ref a) "tuple" := ⟨o, ho, hc⟩
  unfold ofAClassStatement
  refine wpAny_bind (wpAny_typeOf hT ?_)
  dsimp only
  have e : (("tuple" : String) == "tuple") = true := by decide
  simp only [e, if_true, Bool.not_true, Bool.false_eq_true, if_false]
  try refine wpAny_bind (wpAny_pure ?_)
  try simp only [Bool.not_true, Bool.false_eq_true, if_false]
  show wpAny _ _ (seqItems? (.ref a) >>= _) _ _ s
  refine wpAny_bind (wpAny_seqItems ho hd ?_)
  dsimp only
  refine wpAny_bind ?_
  show wpAny _ _ (forIn vs _ _) _ _ s
  rw [← Array.forIn_toList]
  refine wpAny_forIn_list _ (fun rest r s' => r.1 = none ∧ s' = s ∧ ∀ v ∈ rest, ClassAt P w n s v) _ ?_ ?_ _ _ ⟨rfl, rfl, hq⟩
  · rintro v rest r s' ⟨hr, rfl, hall⟩
    refine wpAny_bind (hall v List.mem_cons_self _ _ _ ?_)
    simp only [Bool.false_eq_true, if_false]
    exact wpAny_pure ⟨rfl, rfl, fun u hu => hall u (List.mem_cons_of_mem _ hu)⟩
  · rintro ⟨r1, r2⟩ s' ⟨hr, rfl, _⟩
    simp only at hr
    subst hr
    exact wpAny_pure h
theorem hash_tuple {n : Nat} {s : Shared} {a : Addr} {o : Obj} {vs : Array Value} {m : Nat} (ho : s.heap.get? a = some o) (hc : o.cls = .type "tuple") (hd : o.data = .seq vs m) (hq : ∀ v ∈ vs.toList, HashAt P w n s v) : HashAt P w (n + 1) s (.ref a) := fun A E Q h => by
  have hT : s.TypeIs (.ref a) "tuple" := ⟨o, ho, hc⟩
  unfold hashByValue
  refine wpAny_bind (wpAny_specialOf hT F.slot_tuple_hash.lookup ?_)
  show wpAny _ _ (seqItems? (.ref a) >>= _) _ _ s
  refine wpAny_bind (wpAny_seqItems ho hd ?_)
  refine wpAny_bind ?_
  show wpAny _ _ (forIn vs _ _) _ _ s
  rw [← Array.forIn_toList]
  refine wpAny_forIn_list _ (fun rest r s' => r.1 = none ∧ s' = s ∧ ∀ v ∈ rest, HashAt P w n s v) _ ?_ ?_ _ _ ⟨rfl, rfl, hq⟩
  · rintro v rest r s' ⟨hr, rfl, hall⟩
    refine wpAny_bind (hall v List.mem_cons_self _ _ _ ?_)
    simp only [Bool.not_true, Bool.false_eq_true, if_false]
    exact wpAny_pure ⟨rfl, rfl, fun u hu => hall u (List.mem_cons_of_mem _ hu)⟩
  · rintro ⟨r1, r2⟩ s' ⟨hr, rfl, _⟩
    simp only at hr
    subst hr
    exact wpAny_pure h
mutual
theorem class_key : ∀ (k : NestedKey) (v : Value) (n : Nat) (s : Shared), NestedIs s.heap k v → k.depth ≤ n → ClassAt P w n s v
  | .none, _, n, s, x, _ => by cases x; exact class_of (by cases n <;> rfl)
  | .num i, _, n, s, x, _ => by cases x <;> exact class_of (by cases n <;> rfl)
  | .text y, _, n, s, x, _ => by cases x; exact class_of (by cases n <;> rfl)
  | .tup ks, _, n, s, x, hn => by
    cases x with
    | tup hg hc hd hk =>
      simp only [NestedKey.depth] at hn
      cases n with
      | zero => omega
      | succ n => exact class_tuple hg hc hd (class_keys ks _ n s hk (by omega))
theorem class_keys : ∀ (ks : List NestedKey) (vs : List Value) (n : Nat) (s : Shared), NestedAll s.heap ks vs → NestedKey.depthAll ks ≤ n → ∀ v ∈ vs, ClassAt P w n s v
  | [], _, n, s, x, _, v, hv => by cases x; cases hv
  | k :: ks, _, n, s, x, hn, v, hv => by
    cases x with
    | cons x1 x2 =>
      simp only [NestedKey.depthAll] at hn
      rcases List.mem_cons.mp hv with e | hv
      · rw [e]; exact class_key k _ n s x1 (by omega)
      · exact class_keys ks _ n s x2 (by omega) v hv
end
mutual
theorem hash_key : ∀ (k : NestedKey) (v : Value) (n : Nat) (s : Shared), NestedIs s.heap k v → k.depth ≤ n → noTxt k = true → HashAt P w n s v
  | .none, _, n, s, x, _, _ => by cases x; exact hash_of (by cases n <;> rfl)
  | .num i, _, n, s, x, _, _ => by cases x <;> exact hash_of (by cases n <;> rfl)
  | .text y, _, n, s, x, _, h => by simp [noTxt] at h
  | .tup ks, _, n, s, x, hn, h => by
    cases x with
    | tup hg hc hd hk =>
      simp only [NestedKey.depth] at hn
      simp only [noTxt] at h
      cases n with
      | zero => omega
      | succ n => exact hash_tuple hg hc hd (hash_keys ks _ n s hk (by omega) h)
theorem hash_keys : ∀ (ks : List NestedKey) (vs : List Value) (n : Nat) (s : Shared), NestedAll s.heap ks vs → NestedKey.depthAll ks ≤ n → noTxts ks = true → ∀ v ∈ vs, HashAt P w n s v
  | [], _, n, s, x, _, _, v, hv => by cases x; cases hv
  | k :: ks, _, n, s, x, hn, h, v, hv => by
    cases x with
    | cons x1 x2 =>
      simp only [NestedKey.depthAll] at hn
      simp only [noTxts, Bool.and_eq_true] at h
      rcases List.mem_cons.mp hv with e | hv
      · rw [e]; exact hash_key k _ n s x1 (by omega) h.1
      · exact hash_keys ks _ n s x2 (by omega) h.2 v hv
end
end
/-- the tuple at a is the key k, and no text in it -/
def IsN (P : Program) (w : World) (h : Heap) (k : NestedKey) (a : Addr) : Prop := (nestedKind P w).is h k a ∧ noTxt k = true
abbrev nhash (w : World) (k : NestedKey) : Int := k.hash w
section
variable {P : Program} {w : World} {A : Around} {E : Value → Shared → Prop} {s : Shared}
theorem isN_class {k : NestedKey} {b : Addr} {Q : Bool → Shared → Prop} (hk : IsN P w s.heap k b) (h : Q false s) : wpAny (model P w) A (ofAClassStatement 8 (.ref b)) Q E s := class_key k _ 8 s hk.1.1 hk.1.2 A E Q h
theorem isN_hash {k : NestedKey} {b : Addr} {Q : Bool → Shared → Prop} (hk : IsN P w s.heap k b) (h : Q true s) : wpAny (model P w) A (hashByValue 8 (.ref b)) Q E s := hash_key k _ 8 s hk.1.1 hk.1.2 hk.2 A E Q h
/-- nobody sees such a search -/
theorem unseen {k : NestedKey} {b : Addr} {Q : Bool → Shared → Prop} (hk : IsN P w s.heap k b) {ys : List Value} (hy : ∀ y ∈ ys, ∃ k' c, y = Value.ref c ∧ IsN P w s.heap k' c) (h : Q false s) :
    wpAny (model P w) A (searchCouldBeSeen (.ref b) ys) Q E s := by
  unfold searchCouldBeSeen
  refine wpAny_bind ?_
  refine wpAny_forIn_list _ (fun rest r s' => r.1 = none ∧ s' = s ∧ ∀ y ∈ rest, ∃ k' c, y = Value.ref c ∧ IsN P w s.heap k' c) _ ?_ ?_ _ _ ⟨rfl, rfl, hy⟩
  · rintro v rest r s' ⟨hr, rfl, hall⟩
    obtain ⟨k', c, rfl, hc⟩ := hall v List.mem_cons_self
    have rest' : ∀ y ∈ rest, ∃ k' c, y = Value.ref c ∧ IsN P w s'.heap k' c := fun u hu => hall u (List.mem_cons_of_mem _ hu)
    dsimp only
    by_cases hv : (b == c || (carriedByValue (.ref b) && carriedByValue (.ref c))) = true
    · exact wp_if_pos hv (wpAny_pure ⟨rfl, rfl, rest'⟩)
    · refine wp_if_neg hv ?_
      refine wpAny_bind ((nestedKind P w).quiet hk.1 ?_)
      simp only [Bool.not_true, Bool.false_eq_true, if_false]
      refine wpAny_bind ((nestedKind P w).quiet hc.1 ?_)
      simp only [Bool.not_true, Bool.false_eq_true, if_false]
      refine wpAny_bind (isN_class hk ?_)
      simp only [Bool.false_eq_true, if_false]
      refine wpAny_bind (isN_class hc ?_)
      simp only [Bool.false_eq_true, if_false]
      exact wpAny_pure ⟨rfl, rfl, rest'⟩
  · rintro ⟨r1, r2⟩ s' ⟨hr, rfl, _⟩
    simp only at hr
    subst hr
    exact wpAny_pure h
end
end DL

set_option Elab.async false
set_option linter.all false
set_option maxRecDepth 100000
set_option maxHeartbeats 2000000
/-! # Tables of larger sets: 8, 32, 128 and 512 places -/
namespace DL
open PySem PySem.Spec L2
open PyProof.Rows hiding St
/-! ## Every place is come to -/
/-- the first n stations from i on -/
def stat (m : Nat) : Nat → Nat → List Nat
  | 0, _ => []
  | n + 1, i => i :: stat m n ((i * 5 + 1) % (m + 1))
theorem stat_get (m : Nat) : ∀ (n i k : Nat), k < n → (stat m n i)[k]? = some (lcgI m i k)
  | 0, _, _, h => absurd h (Nat.not_lt_zero _)
  | n + 1, i, 0, _ => rfl
  | n + 1, i, k + 1, h => by
    show (stat m n ((i * 5 + 1) % (m + 1)))[k]? = _
    rw [stat_get m n _ k (by omega)]
    have e : ∀ q, lcgI m ((i * 5 + 1) % (m + 1)) q = lcgI m i (q + 1) := by
      intro q
      induction q with
      | zero => rfl
      | succ q ih =>
        show (lcgI m ((i * 5 + 1) % (m + 1)) q * 5 + 1) % (m + 1) = (lcgI m i (q + 1) * 5 + 1) % (m + 1)
        rw [ih]
    rw [e]
theorem lcg_split (m i a : Nat) : ∀ b, lcgI m (lcgI m i a) b = lcgI m i (a + b)
  | 0 => rfl
  | b + 1 => congrArg (fun x => (x * 5 + 1) % (m + 1)) (lcg_split m i a b)
/-- a whole turn from 0 meets all, and ends at 0 -/
def turnOk (m : Nat) : Bool := ((List.range (m + 1)).all fun j => (stat m (m + 1) 0).contains j) && (lcgI m 0 (m + 1) == 0)
theorem turn_meets {m : Nat} (h : turnOk m = true) {i j : Nat} (hi : i ≤ m) (hj : j ≤ m) : ∃ k, k ≤ m ∧ lcgI m i k = j := by
  unfold turnOk at h
  rw [Bool.and_eq_true, beq_iff_eq, List.all_eq_true] at h
  have at0 : ∀ j, j ≤ m → ∃ k, k ≤ m ∧ lcgI m 0 k = j := fun j hj => by
    have q := h.1 j (List.mem_range.mpr (by omega))
    rw [List.contains_iff_mem] at q
    obtain ⟨k, hk, e⟩ := List.getElem_of_mem q
    have hk2 : k < m + 1 := by
      have : (stat m (m + 1) 0).length = m + 1 := by
        have len : ∀ n i, (stat m n i).length = n := by
          intro n
          induction n with
          | zero => exact fun _ => rfl
          | succ n ih => exact fun i => congrArg (· + 1) (ih _)
        exact len _ _
      omega
    have q2 := stat_get m (m + 1) 0 k hk2
    rw [List.getElem?_eq_getElem hk, e] at q2
    exact ⟨k, by omega, (Option.some.inj q2).symm⟩
  obtain ⟨a, ha, ea⟩ := at0 i hi
  obtain ⟨b, hb, eb⟩ := at0 j hj
  subst ea
  by_cases c : a ≤ b
  · exact ⟨b - a, by omega, by rw [lcg_split, show a + (b - a) = b by omega]; exact eb⟩
  · refine ⟨m + 1 - a + b, by omega, ?_⟩
    rw [lcg_split, show a + (m + 1 - a + b) = m + 1 + b by omega, ← lcg_split, h.2]
    exact eb
/-- the sizes that come -/
inductive Siz : Nat → Prop
  | a : Siz 7
  | b : Siz 31
  | c : Siz 127
  | d : Siz 511
set_option maxRecDepth 1000000 in
theorem Siz.turn {m : Nat} (h : Siz m) : turnOk m = true := by
  cases h <;> decide +kernel
theorem Siz.odd {m : Nat} (h : Siz m) : m % 2 = 1 := by cases h <;> rfl
theorem Siz.le {m : Nat} (h : Siz m) : m ≤ 511 := by cases h <;> decide
theorem Siz.runs {m : Nat} (g : Siz m) (h : Int) {j : Nat} (hj : j ≤ m) : ∃ n, n ≤ m + 12 ∧ runI m (SetTable.bits h) n = j := by
  obtain ⟨k, hk, e⟩ := turn_meets g.turn (runI_le m (SetTable.bits h) 12) hj
  exact ⟨12 + k, by omega, (runI_tail (bits_lt h) k).trans e⟩
theorem way_lt (m : Nat) (h : Int) (k : Nat) : way m h k ≤ m := by
  have b : SetTable.bits h % (m + 1) ≤ m := Nat.le_of_lt_succ (Nat.mod_lt _ (Nat.succ_pos _))
  have := nth_in (m := m) k (runAt m (SetTable.bits h % (m + 1)) (SetTable.bits h)) (by
    have := runEnd_bd b
    simp only [runAt]
    omega)
  exact Nat.le_trans (Nat.le_add_right _ _) this
/-! ## Tables in which each hash is found again -/
structure GT (t : SetTable) (hs : List Int) : Prop where
  up : Ris t.place.toList
  nodum : t.dummies = #[]
  same : t.place.toList.length = hs.length
  siz : Siz t.mask
  in_ : ∀ x ∈ t.place.toList, x ≤ t.mask
  back : ∀ e ∈ hs.zip t.place.toList, ∃ k, way t.mask e.1 k = e.2 ∧ ∀ q, q < k → way t.mask e.1 q ∈ t.place.toList
variable {t : SetTable} {hs : List Int}
theorem GT.odd (T : GT t hs) : ¬ t.gaveWay = true := by
  unfold SetTable.gaveWay
  rw [T.siz.odd]
  decide
theorem GT.fits (T : GT t hs) (hl : hs.length ≤ t.mask) : t.fits hs.length = true := by
  have := T.same
  rw [Array.length_toList] at this
  unfold SetTable.fits SetTable.fill
  rw [T.nodum, Bool.and_eq_true, beq_iff_eq, decide_eq_true_eq]
  exact ⟨this, by rw [this]; exact hl⟩
/-- the way comes to an empty place in time -/
theorem GT.free (T : GT t hs) (hl : hs.length ≤ t.mask) (h : Int) : ∃ K, K < 10 * SetTable.turns t.mask ∧ way t.mask h K ∉ t.place.toList ∧ ∀ k, k < K → way t.mask h k ∈ t.place.toList := by
  obtain ⟨j, hj, hn⟩ := st_missing t.place.toList (t.mask + 1) (by rw [T.same]; omega)
  obtain ⟨n, hn2, e⟩ := T.siz.runs h (Nat.le_of_lt_succ hj)
  obtain ⟨k, hk, e2⟩ := run_nth t.mask (SetTable.bits h) n
  have ek : way t.mask h k = j := by rw [← e]; exact congrArg SetTable.Probe.j e2
  obtain ⟨K, h1, h2, h3⟩ := st_least (p := fun k => way t.mask h k ∉ t.place.toList) k (by rw [ek]; exact hn)
  refine ⟨K, ?_, h2, fun q hq => Classical.byContradiction (h3 q hq)⟩
  have : SetTable.turns t.mask = t.mask + 15 ∨ 10 * SetTable.turns t.mask > 10 * n := by
    right
    unfold SetTable.turns
    omega
  rcases this with z | z
  · rw [z]; omega
  · omega
/-- whoever has the hash stands before the empty place -/
theorem GT.ahead (T : GT t hs) {h : Int} {K i j : Nat} (hK : way t.mask h K ∉ t.place.toList) (hi : hs[i]? = some h) (hj : t.place.toList[i]? = some j) : ∃ k, k < K ∧ way t.mask h k = j := by
  obtain ⟨k, e, b⟩ := T.back (h, j) (List.mem_of_getElem? (i := i) (List.getElem?_zip_eq_some.mpr ⟨hi, hj⟩))
  refine ⟨k, Classical.byContradiction fun c => ?_, e⟩
  rcases Nat.lt_or_ge K k with z | z
  · exact hK (b K z)
  · have : k = K := by omega
    subst this
    exact hK (by rw [show way t.mask h k = j from e]; exact List.mem_of_getElem? hj)
theorem zip_ins {α β : Type} {p : Nat} {l : List α} {m : List β} (x : α) (y : β) (h1 : p ≤ l.length) (h2 : p ≤ m.length) : (l.take p ++ x :: l.drop p).zip (m.take p ++ y :: m.drop p) = (l.zip m).take p ++ (x, y) :: (l.zip m).drop p := by
  rw [List.zip_append (by rw [List.length_take, List.length_take]; omega), List.zip_cons_cons, List.zip_eq_zipWith, List.zip_eq_zipWith, List.zip_eq_zipWith, List.take_zipWith, List.drop_zipWith]
/-- the table with one more -/
structure Put (t : SetTable) (hs : List Int) (h : Int) (j : Nat) (t' : SetTable) (p : Nat) : Prop where
  eq : t.put j = (t', p)
  at_ : p = SetTable.below t.place j
  le : p ≤ hs.length
  ok : GT t' (hs.take p ++ h :: hs.drop p)
  mask : t'.mask = t.mask
  led : t'.led = t.led
  plain : t'.plain = t.plain
  fill : t'.fill = hs.length + 1
theorem GT.put (T : GT t hs) {h : Int} {K : Nat} (hK : way t.mask h K ∉ t.place.toList) (hb : ∀ k, k < K → way t.mask h k ∈ t.place.toList) : ∃ t' p, Put t hs h (way t.mask h K) t' p := by
  have hjm := way_lt t.mask h K
  generalize hj : way t.mask h K = j at hK hjm
  have cut := (below_cut T.up j).1
  have cut2 : SetTable.below t.place j ≤ t.place.toList.length := by rw [Array.length_toList]; exact cut
  have cut3 : SetTable.below t.place j ≤ hs.length := by rw [← T.same]; exact cut2
  have pl := put_place t j
  have more : ∀ x, x ∈ (t.put j).1.place.toList ↔ x = j ∨ x ∈ t.place.toList := fun x => by rw [pl]; exact mem_ins
  have sz : (t.put j).1.place.toList.length = hs.length + 1 := by rw [pl, len_ins _ cut2, T.same]
  refine ⟨(t.put j).1, SetTable.below t.place j, rfl, rfl, cut3, ⟨?_, put_dm T.nodum j, by rw [sz, len_ins _ cut3], T.siz, fun x hx => ?_, ?_⟩, rfl, rfl, rfl, ?_⟩
  · exact ris_insert T.up fun e => hK (List.mem_of_getElem? (by rw [Array.getElem?_toList]; exact e))
  · rcases (more x).mp hx with e | e
    · rw [e]; exact hjm
    · exact T.in_ x e
  · rw [pl, zip_ins h j cut3 cut2]
    intro e he
    have old : ∀ q, way t.mask e.1 q ∈ t.place.toList → way t.mask e.1 q ∈ t.place.toList.take (SetTable.below t.place j) ++ j :: t.place.toList.drop (SetTable.below t.place j) := fun q z => mem_ins.mpr (.inr z)
    rcases mem_ins.mp he with rfl | he
    · exact ⟨K, hj, fun q hq => old q (hb q hq)⟩
    · obtain ⟨k, e1, e2⟩ := T.back e he
      exact ⟨k, e1, fun q hq => old q (e2 q hq)⟩
  · show (t.put j).1.place.size + (t.put j).1.dummies.size = _
    rw [put_dm T.nodum j, ← Array.length_toList, sz]
    rfl
/-! ## Laying all anew -/
/-- a place that is free on the way from h -/
theorem Siz.spot {m : Nat} (g : Siz m) (own : Array (Option Nat)) (h : Int) {j : Nat} (hj : j ≤ m) (hf : oAt own j = none) :
    ∃ K, SetTable.layClean.free m own (SetTable.turns m) (SetTable.bits h % (m + 1)) (SetTable.bits h) = some (way m h K) ∧ oAt own (way m h K) = none ∧ ∀ k, k < K → oAt own (way m h k) ≠ none := by
  obtain ⟨n, hn, e⟩ := g.runs h hj
  have at_ : way m h (off m (SetTable.bits h % (m + 1)) (SetTable.bits h) n) = j := by
    have q := congrArg SetTable.Probe.j (nth_off m n (SetTable.bits h % (m + 1)) (SetTable.bits h))
    rw [itL_run] at q
    exact q.trans e
  obtain ⟨K, k1, k2, k3⟩ := st_least (p := fun k => oAt own (way m h k) = none) _ (by rw [at_]; exact hf)
  refine ⟨K, free_spec m own (SetTable.turns m) n _ _ K (by unfold SetTable.turns; omega) k1 (fun k hk => ?_) ?_, k2, k3⟩
  · have q := k3 k hk
    show (oAt own (way m h k)).isNone = false
    cases z : oAt own (way m h k) with
    | none => exact absurd z q
    | some _ => rfl
  · show (oAt own (way m h K)).isNone = true
    rw [k2]
    rfl
theorem own_more {m : Nat} (g : Siz m) {done : List Int} {own : Array (Option Nat)} (W : Own m done own) (hl : done.length ≤ m) (h : Int) :
    ∃ j, SetTable.layClean.free m own (SetTable.turns m) (SetTable.bits h % (m + 1)) (SetTable.bits h) = some j ∧ Own m (done ++ [h]) (own.setIfInBounds j (some done.length)) := by
  obtain ⟨ps, l1, l2⟩ := W.ps
  obtain ⟨j0, a1, a2⟩ := st_missing ps (m + 1) (by omega)
  have a3 : oAt own j0 = none := Classical.byContradiction fun z => a2 (l2 j0 (Nat.le_of_lt_succ a1) z)
  obtain ⟨K, b1, b2, b3⟩ := g.spot own h (Nat.le_of_lt_succ a1) a3
  have jm := way_lt m h K
  generalize hj : way m h K = j at b1 b2 jm
  have here : oAt (own.setIfInBounds j (some done.length)) j = some done.length := oAt_set_self _ (by rw [W.sz]; exact Nat.lt_succ_of_le jm)
  have keep : ∀ i, oAt own i ≠ none → oAt (own.setIfInBounds j (some done.length)) i ≠ none := fun i hi => by
    rw [oAt_set_ne _ fun z : i = j => hi (by rw [z]; exact b2)]
    exact hi
  refine ⟨j, b1, (Array.size_setIfInBounds ..).trans W.sz, fun i k hi e => ?_, fun k hk => ?_, j :: ps, by simp [l1], fun i hi e => ?_⟩
  · by_cases c : i = j
    · subst c
      rw [here] at e
      cases e
      exact ⟨h, K, by simp, hj, fun q hq => keep _ (b3 q hq)⟩
    · rw [oAt_set_ne _ c] at e
      obtain ⟨h', K', c1, c2, c3⟩ := W.at_ i k hi e
      exact ⟨h', K', by rw [List.getElem?_append_left (List.getElem?_eq_some_iff.mp c1).1]; exact c1, c2, fun q hq => keep _ (c3 q hq)⟩
  · rcases Nat.lt_or_ge k done.length with c | c
    · obtain ⟨i, hi, e⟩ := W.all k c
      exact ⟨i, hi, by rw [oAt_set_ne _ fun z => by rw [z, b2] at e; cases e]; exact e⟩
    · have : k = done.length := by simp at hk; omega
      rw [this]
      exact ⟨j, jm, here⟩
  · by_cases c : i = j
    · rw [c]; exact List.mem_cons_self
    · rw [oAt_set_ne _ c] at e
      exact List.mem_cons_of_mem _ (l2 i hi e)
theorem own_fold {m : Nat} (g : Siz m) : ∀ (todo done : List Int) (own : Array (Option Nat)), Own m done own → done.length + todo.length ≤ m →
    ∃ own', todo.foldl (stepF m) (some (own, done.length)) = some (own', done.length + todo.length) ∧ Own m (done ++ todo) own'
  | [], done, own, W, _ => ⟨own, rfl, by rw [List.append_nil]; exact W⟩
  | h :: todo, done, own, W, hl => by
    rw [List.length_cons] at hl
    obtain ⟨j, e, W'⟩ := own_more g W (by omega) h
    have len : (done ++ [h]).length = done.length + 1 := by simp
    obtain ⟨own', f, W2⟩ := own_fold g todo _ _ W' (by rw [len]; omega)
    rw [len] at f
    rw [List.append_assoc] at W2
    refine ⟨own', ?_, W2⟩
    rw [List.foldl_cons, stepF_some e, f, List.length_cons, show done.length + 1 + todo.length = done.length + (todo.length + 1) by omega]
/-- a table laid anew -/
structure Laid (t : SetTable) (hs : Array Int) (M : Nat) (t' : SetTable) (order : Array Nat) : Prop where
  perm : order.toList.Perm (List.range hs.size)
  ok : GT t' (order.toList.map fun i => hs.getD i 0)
  mask : t'.mask = M
  led : t'.led = t.led
  plain : t'.plain = t.plain
theorem laid_anew (t : SetTable) {hs : Array Int} {wanted M : Nat} (hw : SetTable.sizeAbove wanted - 1 = M) (g : Siz M) (hn : hs.size ≤ M) : ∃ t' order, t.relaid hs wanted = some (t', order) ∧ Laid t hs M t' order := by
  obtain ⟨own, f, W⟩ := own_fold g hs.toList [] _ (Own.init M) (by rw [Array.length_toList]; simpa using hn)
  rw [List.nil_append] at W
  have lay : SetTable.layClean M hs = some own := by rw [layClean_eq]; exact congrArg (Option.map (·.1)) f
  have eq : t.relaid hs wanted = some (L2.tabOf t M own, ((liveOf M own).map (·.2)).toArray) := by rw [relaid_eq, hw, lay]; rfl
  obtain ⟨up, inn⟩ := ris_live (fun j => own.getD j none) (List.range (M + 1)) List.pairwise_lt_range
  have up : Ris ((liveOf M own).map (·.1)) := up
  have inn : ∀ x ∈ (liveOf M own).map (·.1), x ∈ List.range (M + 1) := inn
  have mem : ∀ e ∈ liveOf M own, e.1 ≤ M ∧ oAt own e.1 = some e.2 := fun e he => (mem_live W.sz).mp he
  have len : (liveOf M own).length = hs.size := by
    obtain ⟨ps, l1, l2⟩ := W.ps
    have nd : (List.map (fun e : Nat × Nat => e.1) (liveOf M own)).Nodup := List.Pairwise.imp (fun h => Nat.ne_of_lt h) up
    have a := nat_nodup_len _ ps nd fun x hx => by
      obtain ⟨e, he, rfl⟩ := List.mem_map.mp hx
      exact l2 _ (mem e he).1 (by rw [(mem e he).2]; simp)
    have b := nat_nodup_len (List.range hs.size) ((liveOf M own).map (·.2)) List.nodup_range fun k hk => by
      obtain ⟨j, c1, c2⟩ := W.all k (by rw [Array.length_toList]; exact List.mem_range.mp hk)
      exact List.mem_map.mpr ⟨(j, k), (mem_live W.sz).mpr ⟨c1, c2⟩, rfl⟩
    have hz : hs.toList.length = hs.size := Array.length_toList
    rw [List.length_map, l1] at a
    rw [List.length_map, List.length_range] at b
    omega
  refine ⟨_, _, eq, ?_, ⟨up, rfl, ?_, g, fun x hx => Nat.le_of_lt_succ (List.mem_range.mp (inn x hx)), ?_⟩, rfl, rfl, rfl⟩
  · refine perm_range hs.size _ (by simpa using len) fun k hk => ?_
    obtain ⟨j, c1, c2⟩ := W.all k (by rw [Array.length_toList]; exact hk)
    exact List.mem_map.mpr ⟨(j, k), (mem_live W.sz).mpr ⟨c1, c2⟩, rfl⟩
  · show ((liveOf M own).map (·.1)).length = _
    rw [List.length_map, List.length_map, List.length_map]
  · show ∀ e ∈ (((liveOf M own).map (·.2)).map fun i => hs.getD i 0).zip ((liveOf M own).map (·.1)), ∃ k, way M e.1 k = e.2 ∧ ∀ q, q < k → way M e.1 q ∈ (liveOf M own).map (·.1)
    rw [List.map_map, List.zip_map']
    intro e he
    obtain ⟨r, hr, rfl⟩ := List.mem_map.mp he
    obtain ⟨c1, c2⟩ := mem r hr
    obtain ⟨h0, K, d1, d2, d3⟩ := W.at_ _ _ c1 c2
    have eh : hs.getD r.2 0 = h0 := by rw [Array.getD_eq_getD_getElem?, ← Array.getElem?_toList, d1]; rfl
    dsimp only [Function.comp]
    rw [eh]
    refine ⟨K, d2, fun q hq => ?_⟩
    cases z : oAt own (way M h0 q) with
    | none => exact absurd z (d3 q hq)
    | some i => exact List.mem_map.mpr ⟨(way M h0 q, i), (mem_live W.sz).mpr ⟨way_lt .., z⟩, rfl⟩
/-- where a table grows to -/
theorem sizes_grown : (∀ n, n = 5 → SetTable.sizeAbove (SetTable.grown n) = 32) ∧ (∀ n, n = 19 → SetTable.sizeAbove (SetTable.grown n) = 128) ∧ (∀ n, n = 77 → SetTable.sizeAbove (SetTable.grown n) = 512) := by
  refine ⟨fun n e => ?_, fun n e => ?_, fun n e => ?_⟩ <;> subst e <;> decide +kernel
end DL

set_option Elab.async false
set_option linter.all false
set_option maxRecDepth 100000
set_option maxHeartbeats 2000000
/-! # Small sets of nested tuples: searched, added to -/
namespace DL
open PySem PySem.Spec L2
open PyProof.Rows hiding St
abbrev NL := List (Addr × NestedKey)
abbrev nrows (w : World) (L : NL) : List (Int × Value) := L.map fun p => (nhash w p.2, Value.ref p.1)
/-- at a stands a set of the keys L: at most four, so its table is the first one -/
structure SN (P : Program) (w : World) (h : Heap) (a : Addr) (L : NL) (es : Array (Int × Value)) (ep : Nat) (t : SetTable) : Prop where
  ob : ∃ o, h.get? a = some o ∧ o.ExactSet ∧ o.data = .set es ep t
  rows : es.toList = nrows w L
  tab : TabOk t (L.map fun p => nhash w p.2)
  m7 : t.mask = 7
  nd : (L.map (·.2)).Nodup
  key : ∀ p ∈ L, IsN P w h p.2 p.1
  plain : t.plain = true
  led : w.params.followText "set-order" = true ∨ t.led = true
  few : L.length ≤ 4
/-- the n-th probe of a hash -/
abbrev prb (m : Nat) (h : Int) (n : Nat) : SetTable.Probe := nth m (runAt m (SetTable.bits h % (m + 1)) (SetTable.bits h)) n
theorem prb_way (m : Nat) (h : Int) (n : Nat) : (prb m h n).j = way m h n := rfl
theorem prb_add (m : Nat) (h : Int) (c q : Nat) : nth m (prb m h c) q = prb m h (c + q) := (nth_add m c _ q).symm
theorem prb_clean (m : Nat) (h : Int) (c : Nat) : (prb m h c).dummy = none := by
  have key : ∀ (n : Nat) (p : SetTable.Probe), p.dummy = none → (nth m p n).dummy = none := by
    intro n
    induction n with
    | zero => exact fun p h => h
    | succ n ih =>
      intro p h
      refine ih (adv m p) ?_
      unfold adv
      split <;> exact h
  exact key c _ rfl
section
variable {P : Program} {w : World} {A : Around} {E : Value → Shared → Prop} {s : Shared} {a : Addr} {L : NL} {es : Array (Int × Value)} {ep : Nat} {t : SetTable}
theorem SN.size {h : Heap} (R : SN P w h a L es ep t) : es.size = L.length := by
  have h := congrArg List.length R.rows
  rw [Array.length_toList, List.length_map] at h
  exact h
theorem SN.psize {h : Heap} (R : SN P w h a L es ep t) : t.place.size = L.length := by
  have h := R.tab.sz
  rw [List.length_map] at h
  exact h
theorem SN.fits {h : Heap} (R : SN P w h a L es ep t) : t.fits es.size = true := by
  have h1 := R.psize
  have h2 := R.size
  have h3 := R.few
  have h4 := R.m7
  unfold SetTable.fits SetTable.fill
  rw [R.tab.dm, Bool.and_eq_true, beq_iff_eq, decide_eq_true_eq]
  show t.place.size = es.size ∧ t.place.size + 0 ≤ t.mask
  omega
theorem SN.entry {h : Heap} (R : SN P w h a L es ep t) {i : Nat} {p : Addr × NestedKey} (e : L[i]? = some p) : es[i]? = some (nhash w p.2, Value.ref p.1) := by
  rw [← Array.getElem?_toList, R.rows, List.getElem?_map, e]
  rfl
theorem SN.gw {h : Heap} (R : SN P w h a L es ep t) : ¬ t.gaveWay = true := by
  unfold SetTable.gaveWay
  rw [R.m7]
  decide
variable {x : Addr} {k : NestedKey}
/-- the search, from the c-th probe on; K is the first empty place of the way -/
theorem sn_from (R : SN P w s.heap a L es ep t) (hx : IsN P w s.heap k x) (hu : A.units + 8 < cLine) (ad : Bool) {K : Nat} (hKf : K < 10 * SetTable.turns t.mask)
    (hK : way t.mask (nhash w k) K ∉ t.place.toList) (hKb : ∀ c, c < K → way t.mask (nhash w k) c ∈ t.place.toList) {Q : SetFound → Shared → Prop}
    (hin : k ∈ L.map (·.2) → ∀ o : Option Nat, (ad = false → o.isSome = true) → Q (.there o) s) (hout : k ∉ L.map (·.2) → Q (.free (way t.mask (nhash w k) K) false) s) :
    ∀ (f c : Nat) (stand : Option SetTable.Probe), stand.getD (t.probeStart (nhash w k)) = prb t.mask (nhash w k) c → c ≤ K → K - c < f →
      (∀ (i : Nat) p, L[i]? = some p → p.2 = k → ∃ c', c ≤ c' ∧ c' < K ∧ t.place.toList[i]? = some (way t.mask (nhash w k) c')) →
      wpAny (model P w) A (setSearchFrom a (.ref x) (nhash w k) ad f stand) Q E s
  | 0, c, stand, _, _, hf, _ => absurd hf (Nat.not_lt_zero _)
  | f + 1, c, stand, hst, hc, hf, hre => by
    obtain ⟨o, ho, hex, hd⟩ := R.ob
    rw [setSearchFrom_succ]
    refine wpAny_bind (wpAny_setState_of ho hd R.fits ?_)
    dsimp only
    refine wp_if_neg R.gw ?_
    try refine wpAny_bind (wpAny_pure ?_)
    have spec := go_spec t R.tab.ris R.tab.dm (fun i => (es[i]?.map (·.1)).getD 0) (nhash w k) (10 * SetTable.turns t.mask) (K - c) (prb t.mask (nhash w k) c) (prb_clean _ _ _) (by omega)
      (fun q hq => by rw [prb_add]; exact hKb (c + q) (by omega)) (by rw [prb_add, show c + (K - c) = K by omega]; exact hK)
    have hashAt : ∀ (i : Nat) p, L[i]? = some p → (es[i]?.map (·.1)).getD 0 = nhash w p.2 := fun i p hp => by
      rw [R.entry hp]
      rfl
    rcases spec with ⟨q, i, hq, hi, hh, hno, hpr⟩ | ⟨hno, hpr⟩
    · rw [prb_add] at hi
      have hpr' : t.probe (fun i => (es[i]?.map (·.1)).getD 0) (nhash w k) (stand.getD (t.probeStart (nhash w k))) = some (.candidate (way t.mask (nhash w k) (c + q)) i (prb t.mask (nhash w k) (c + (q + 1)))) := by
        rw [hst, ← prb_way, ← prb_add, ← prb_add]
        exact hpr
      rw [hpr']
      dsimp only
      have hil : i < L.length := by
        have h1 : i < t.place.toList.length := (List.getElem?_eq_some_iff.mp hi).1
        have h2 := R.psize
        rw [Array.length_toList] at h1
        omega
      obtain ⟨p, hp⟩ : ∃ p, L[i]? = some p := ⟨_, List.getElem?_eq_getElem hil⟩
      have hmem : p ∈ L := List.mem_of_getElem? hp
      have hpt := R.key p hmem
      have rest : wpAny (model P w) A (searchRest a (.ref x) (nhash w k) ad f es t (way t.mask (nhash w k) (c + q)) i (prb t.mask (nhash w k) (c + (q + 1)))) Q E s := by
        unfold searchRest
        rw [R.entry hp]
        dsimp only
        refine wpAny_bind (wpAny_holding ((nestedKind P w).eqBool hu hpt.1 hx.1 ?_))
        refine wpAny_bind (wpAny_setState_of ho hd R.fits ?_)
        dsimp only
        have hsl : t.slot (way t.mask (nhash w k) (c + q)) = .live i := slot_live R.tab.ris hi
        by_cases hkk : p.2 = k
        · have hk' : k ∈ L.map (·.2) := List.mem_map.mpr ⟨p, hmem, hkk⟩
          cases ad with
          | true => exact wp_if_pos (by simp [hkk]) (wpAny_pure (hin hk' _ fun z => by cases z))
          | false =>
            refine wp_if_neg (by simp) ?_
            try refine wpAny_bind (wpAny_pure ?_)
            rw [sameMem]
            dsimp only
            simp only [if_true, hsl, R.entry hp]
            refine wpAny_bind (wpAny_isSame_ref_self (wpAny_bind (wpAny_pure ?_)))
            simp only [if_true]
            exact wp_if_pos (by simp [hkk]) (wpAny_pure (hin hk' _ fun _ => rfl))
        · refine wp_if_neg (by simp [hkk]) ?_
          try refine wpAny_bind (wpAny_pure ?_)
          rw [sameMem]
          dsimp only
          simp only [if_true, hsl, R.entry hp]
          refine wpAny_bind (wpAny_isSame_ref_self (wpAny_bind (wpAny_pure ?_)))
          simp only [if_true]
          refine wp_if_neg (by simp [hkk]) ?_
          refine sn_from R hx hu ad hKf hK hKb hin hout f (c + (q + 1)) _ rfl (by omega) (by omega) fun i0 p0 h0 hk0 => ?_
          obtain ⟨c', a1, a2, a3⟩ := hre i0 p0 h0 hk0
          refine ⟨c', ?_, a2, a3⟩
          rcases Nat.lt_trichotomy c' (c + q) with z | z | z
          · exact absurd ((hashAt i0 p0 h0).trans (congrArg (nhash w) hk0)) (hno (c' - c) i0 (by omega) (by rw [prb_add, prb_way, show c + (c' - c) = c' by omega]; exact a3))
          · exfalso
            rw [z] at a3
            have s0 := slot_live R.tab.ris a3
            rw [hsl] at s0
            injection s0 with s0
            rw [← s0, hp] at h0
            exact hkk ((congrArg Prod.snd (Option.some.inj h0)).trans hk0)
          · omega
      by_cases hl : t.led = true
      · refine wp_if_neg (by simp [hl]) ?_
        try refine wpAny_bind (wpAny_pure ?_)
        exact rest
      · refine wp_if_pos (by simp [hl]) ?_
        refine wpAny_bind (unseen hx (fun y hy => ?_) ?_)
        · obtain ⟨e, he, ee⟩ := List.mem_map.mp hy
          have he1 : e ∈ es ∧ e.1 = nhash w k := by simpa using he
          have he2 : e ∈ es.toList := by simpa using he1.1
          rw [R.rows] at he2
          obtain ⟨p2, hp2, e2⟩ := List.mem_map.mp he2
          exact ⟨p2.2, p2.1, by rw [← ee, ← e2], R.key p2 hp2⟩
        · refine wp_if_neg (by decide) ?_
          try refine wpAny_bind (wpAny_pure ?_)
          exact rest
    · have hpr' : t.probe (fun i => (es[i]?.map (·.1)).getD 0) (nhash w k) (stand.getD (t.probeStart (nhash w k))) = some (.empty (way t.mask (nhash w k) K) none) := by
        have e2 : way t.mask (nhash w k) K = (nth t.mask (prb t.mask (nhash w k) c) (K - c)).j := by
          rw [prb_add, prb_way, show c + (K - c) = K by omega]
        rw [hst, e2]
        exact hpr
      rw [hpr']
      dsimp only
      refine wpAny_pure (hout fun hm => ?_)
      obtain ⟨p0, h0, hk0⟩ := List.mem_map.mp hm
      obtain ⟨i0, hi0, e0⟩ := List.getElem_of_mem h0
      have h00 : L[i0]? = some p0 := by rw [List.getElem?_eq_getElem hi0, e0]
      obtain ⟨c', a1, a2, a3⟩ := hre i0 p0 h00 hk0
      exact hno (c' - c) i0 (by omega) (by rw [prb_add, prb_way, show c + (c' - c) = c' by omega]; exact a3) ((hashAt i0 p0 h00).trans (congrArg (nhash w) hk0))
theorem sn_search (R : SN P w s.heap a L es ep t) (hx : IsN P w s.heap k x) (hu : A.units + 8 < cLine) (ad : Bool) {Q : SetFound → Shared → Prop}
    (hin : k ∈ L.map (·.2) → ∀ o : Option Nat, (ad = false → o.isSome = true) → Q (.there o) s)
    (hout : ∀ K, k ∉ L.map (·.2) → way t.mask (nhash w k) K ∉ t.place.toList → (∀ c, c < K → way t.mask (nhash w k) c ∈ t.place.toList) → Q (.free (way t.mask (nhash w k) K) false) s) :
    wpAny (model P w) A (setSearch a (.ref x) (nhash w k) ad) Q E s := by
  have h7 := R.m7
  have hf := R.few
  obtain ⟨K, hKf, hK, hKb⟩ := R.tab.first (by rw [List.length_map]; omega) (nhash w k)
  have hbig : K < 100000 := by
    have : 10 * SetTable.turns t.mask ≤ 1420 := by
      unfold SetTable.turns
      omega
    omega
  unfold setSearch
  refine sn_from R hx hu ad hKf hK hKb hin (fun hn => hout K hn hK hKb) 100000 0 none rfl (Nat.zero_le _) (by omega) fun i p hp hk => ?_
  have hi : (L.map fun p => nhash w p.2)[i]? = some (nhash w k) := by rw [List.getElem?_map, hp, ← hk]; rfl
  have hil : i < t.place.toList.length := by
    have h1 : i < L.length := (List.getElem?_eq_some_iff.mp hp).1
    have h2 := R.psize
    rw [Array.length_toList]
    omega
  have hj := List.getElem?_eq_getElem hil
  obtain ⟨c, hc, e⟩ := R.tab.before hK hi hj
  exact ⟨c, Nat.zero_le _, hc, by rw [hj, e]⟩
theorem isN_same {h h' : Heap} {o : Obj} {k : NestedKey} {b : Addr} (x : IsN P w h k b) (ho : h.get? a = some o) (hd : o.data = .set es ep t) (hs : Heap.SameBut a h h') : IsN P w h' k b :=
  ⟨nestedKind_stays.stays (fun c ob vs n e q => (hs.2 c fun z => by
    subst z
    rw [ho] at e
    cases e
    rw [hd] at q
    cases q).trans e) x.1, x.2⟩
theorem isN_keep {h h' : Heap} {k : NestedKey} {b : Addr} (x : IsN P w h k b) (hk : ∀ c o, h.get? c = some o → h'.get? c = some o) : IsN P w h' k b :=
  ⟨nestedKind_stays.stays (fun c o _ _ e _ => hk c o e) x.1, x.2⟩
theorem nrows_ins (L : NL) (p : Nat) (x : Addr) (k : NestedKey) : nrows w (L.take p ++ (x, k) :: L.drop p) = (nrows w L).take p ++ (nhash w k, Value.ref x) :: (nrows w L).drop p := by
  unfold nrows
  rw [List.map_append, List.map_cons, List.map_take, List.map_drop]
/-- one key more -/
theorem sn_add (R : SN P w s.heap a L es ep t) (hx : IsN P w s.heap k x) (hu : A.units + 8 < cLine) (h3 : k ∉ L.map (·.2) → L.length ≤ 3) {Q : Bool → Shared → Prop}
    (hQ : ∀ b h' L' es' ep' t', Heap.SameBut a s.heap h' → SN P w h' a L' es' ep' t' → (k ∈ L.map (·.2) → L' = L) → (k ∉ L.map (·.2) → L'.Perm ((x, k) :: L)) → Q b { s with heap := h' }) :
    wpAny (model P w) A (setAddHashed a (.ref x) (nhash w k)) Q E s := by
  obtain ⟨o, ho, hex, hd⟩ := R.ob
  have hsl := R.size
  unfold setAddHashed
  refine wpAny_holding ?_
  rw [show (100000 : Nat) = 99999 + 1 from rfl, setAddHashedIn_succ]
  refine wpAny_bind (wpAny_setState_of ho hd R.fits ?_)
  dsimp only
  refine wp_if_neg (by simp [byScan, Value.scannable]) ?_
  try refine wpAny_bind (wpAny_pure ?_)
  refine wpAny_bind (sn_search R hx hu true (fun hm o' _ => ?_) fun K hm hK hb => ?_)
  · dsimp only
    exact wpAny_pure (hQ false s.heap L es ep t (Heap.SameBut.refl a s.heap) R (fun _ => rfl) fun z => absurd hm z)
  · dsimp only
    have h3 := h3 hm
    refine wpAny_bind (wpAny_setState_of ho hd R.fits ?_)
    dsimp only
    obtain ⟨q1, q2, q3, q4, q5, q6, q7, q8, q9⟩ := R.tab.put hK hb
    have hp1 : (t.put (way t.mask (nhash w k) K)).1.plain = true := by rw [q6]; exact R.plain
    generalize hpt : t.put (way t.mask (nhash w k) K) = pt at q1 q3 q4 q5 q6 q7 q8 q9 hp1 ⊢
    obtain ⟨t1, p⟩ := pt
    dsimp only at q1 q3 q4 q5 q6 q7 q8 q9 hp1 ⊢
    subst q1
    first
      | (refine wpAny_bind ?_; refine wp_if_pos hp1 ?_; refine isN_hash hx ?_)
      | refine wp_if_pos hp1 (wpAny_bind (isN_hash hx ?_))
    simp only [if_true]
    have hrow : (SetTable.insertAt es (SetTable.below t.place (way t.mask (nhash w k) K)) (nhash w k, Value.ref x)).toList = nrows w (L.take (SetTable.below t.place (way t.mask (nhash w k) K)) ++ (x, k) :: L.drop (SetTable.below t.place (way t.mask (nhash w k) K))) := by
      rw [SetTable.toList_insertAt, nrows_ins, R.rows]
    generalize SetTable.below t.place (way t.mask (nhash w k) K) = p at q2 q3 hrow ⊢
    have pm := put_perm L p (x, k)
    have hlen : (L.take p ++ (x, k) :: L.drop p).length = L.length + 1 := pm.length_eq
    have hhs : (L.take p ++ (x, k) :: L.drop p).map (fun p => nhash w p.2) = (L.map fun p => nhash w p.2).take p ++ nhash w k :: (L.map fun p => nhash w p.2).drop p := by
      rw [List.map_append, List.map_cons, List.map_take, List.map_drop]
    rw [← hhs] at q3
    have nd1 : ((L.take p ++ (x, k) :: L.drop p).map (·.2)).Nodup := by
      refine (pm.map (·.2)).nodup_iff.mpr ?_
      rw [List.map_cons]
      exact List.nodup_cons.mpr ⟨hm, R.nd⟩
    have hes : (SetTable.insertAt es p (nhash w k, Value.ref x)).size = L.length + 1 := by
      have h := congrArg List.length hrow
      rw [Array.length_toList, List.length_map, hlen] at h
      exact h
    generalize SetTable.insertAt es p (nhash w k, Value.ref x) = es1 at hrow hes ⊢
    generalize L.take p ++ (x, k) :: L.drop p = L1 at pm hlen q3 nd1 hrow
    refine wpAny_bind (wpAny_storeSet_of ho hd ?_ (by rw [hes, sizeLine_eq]; omega))
    have sb : Heap.SameBut a s.heap (s.heap.update a (Obj.putSet es1 t1)) := Heap.SameBut.update ..
    have ho1 := store_at (es' := es1) (t' := t1) ho hd
    generalize s.heap.update a (Obj.putSet es1 t1) = h1 at sb ho1 ⊢
    have key1 : ∀ p ∈ L1, IsN P w h1 p.2 p.1 := fun p hp => by
      rcases List.mem_cons.mp (pm.mem_iff.mp hp) with e | hp
      · rw [e]; exact isN_same hx ho hd sb
      · exact isN_same (R.key p hp) ho hd sb
    have ld1 : w.params.followText "set-order" = true ∨ t1.led = true := by rw [q5]; exact R.led
    have m1 : t1.mask = 7 := q4.trans R.m7
    have hf : ¬ t1.tooFull = true := by
      unfold SetTable.tooFull
      rw [decide_eq_true_eq, q9, List.length_map, m1]
      omega
    first
      | refine wp_if_neg (by simp [hf]) ?_
      | (refine wpAny_bind ?_; refine wp_if_neg (by simp [hf]) ?_; refine wpAny_pure ?_)
    exact wpAny_pure (hQ true h1 L1 es1 (ep + 1) t1 sb ⟨⟨_, ho1, ⟨hex.1, hex.2.1, hex.2.2⟩, rfl⟩, hrow, q3, m1, nd1, key1, hp1, ld1, by rw [hlen]; omega⟩ (fun z => absurd z hm) fun _ => pm)
end
end DL

set_option Elab.async false
set_option linter.all false
set_option maxRecDepth 100000
set_option maxHeartbeats 2000000
/-! # Sets of nested tuples, up to 256 of them, texts among them: searched, added to -/
namespace DL
open PySem PySem.Spec L2
open PyProof.Rows hiding St
/-- the tuple at a is the key k -/
abbrev IsK (P : Program) (w : World) (h : Heap) (k : NestedKey) (a : Addr) : Prop := (nestedKind P w).is h k a
section
variable {P : Program} {w : World} {A : Around} {E : Value → Shared → Prop} {s : Shared}
/-- whether its hash hangs on its value alone is told, either way -/
def HashSaid (P : Program) (w : World) (n : Nat) (s : Shared) (v : Value) : Prop := ∀ (A : Around) (E : Value → Shared → Prop) (Q : Bool → Shared → Prop), (∀ b, Q b s) → wpAny (model P w) A (hashByValue n v) Q E s
theorem said_of {n : Nat} {s : Shared} {v : Value} {b : Bool} (h : hashByValue n v = pure b) : HashSaid P w n s v := fun A E Q q => by
  rw [h]
  exact wpAny_pure (q b)
theorem said_tuple {n : Nat} {s : Shared} {a : Addr} {o : Obj} {vs : Array Value} {m : Nat} (ho : s.heap.get? a = some o) (hc : o.cls = .type "tuple") (hd : o.data = .seq vs m) (hq : ∀ v ∈ vs.toList, HashSaid P w n s v) : HashSaid P w (n + 1) s (.ref a) := fun A E Q h => by
  have hT : s.TypeIs (.ref a) "tuple" := ⟨o, ho, hc⟩
  unfold hashByValue
  refine wpAny_bind (wpAny_specialOf hT F.slot_tuple_hash.lookup ?_)
  show wpAny _ _ (seqItems? (.ref a) >>= _) _ _ s
  refine wpAny_bind (wpAny_seqItems ho hd ?_)
  refine wpAny_bind ?_
  show wpAny _ _ (forIn vs _ _) _ _ s
  rw [← Array.forIn_toList]
  refine wpAny_forIn_list _ (fun rest r s' => r.1 = none ∧ s' = s ∧ ∀ v ∈ rest, HashSaid P w n s v) _ ?_ ?_ _ _ ⟨rfl, rfl, hq⟩
  · rintro v rest r s' ⟨hr, rfl, hall⟩
    refine wpAny_bind (hall v List.mem_cons_self _ _ _ fun b => ?_)
    cases b
    · simp only [Bool.not_false, if_true]
      refine wpAny_pure ?_
      exact wpAny_pure (h false)
    · simp only [Bool.not_true, Bool.false_eq_true, if_false]
      exact wpAny_pure ⟨rfl, rfl, fun u hu => hall u (List.mem_cons_of_mem _ hu)⟩
  · rintro ⟨r1, r2⟩ s' ⟨hr, rfl, _⟩
    simp only at hr
    subst hr
    exact wpAny_pure (h true)
mutual
theorem said_key : ∀ (k : NestedKey) (v : Value) (n : Nat) (s : Shared), NestedIs s.heap k v → k.depth ≤ n → HashSaid P w n s v
  | .none, _, n, s, x, _ => by cases x; exact said_of (b := true) (by cases n <;> rfl)
  | .num i, _, n, s, x, _ => by cases x <;> exact said_of (b := true) (by cases n <;> rfl)
  | .text y, _, n, s, x, _ => by cases x; exact said_of (b := false) (by cases n <;> rfl)
  | .tup ks, _, n, s, x, hn => by
    cases x with
    | tup hg hc hd hk =>
      simp only [NestedKey.depth] at hn
      cases n with
      | zero => omega
      | succ n => exact said_tuple hg hc hd (said_keys ks _ n s hk (by omega))
theorem said_keys : ∀ (ks : List NestedKey) (vs : List Value) (n : Nat) (s : Shared), NestedAll s.heap ks vs → NestedKey.depthAll ks ≤ n → ∀ v ∈ vs, HashSaid P w n s v
  | [], _, n, s, x, _, v, hv => by cases x; cases hv
  | k :: ks, _, n, s, x, hn, v, hv => by
    cases x with
    | cons x1 x2 =>
      simp only [NestedKey.depthAll] at hn
      rcases List.mem_cons.mp hv with e | hv
      · rw [e]; exact said_key k _ n s x1 (by omega)
      · exact said_keys ks _ n s x2 (by omega) v hv
end
theorem isK_said {k : NestedKey} {b : Addr} {Q : Bool → Shared → Prop} (hk : IsK P w s.heap k b) (h : ∀ b, Q b s) : wpAny (model P w) A (hashByValue 8 (.ref b)) Q E s := said_key k _ 8 s hk.1 hk.2 A E Q h
theorem isK_class {k : NestedKey} {b : Addr} {Q : Bool → Shared → Prop} (hk : IsK P w s.heap k b) (h : Q false s) : wpAny (model P w) A (ofAClassStatement 8 (.ref b)) Q E s := class_key k _ 8 s hk.1 hk.2 A E Q h
theorem unseenK {k : NestedKey} {b : Addr} {Q : Bool → Shared → Prop} (hk : IsK P w s.heap k b) {ys : List Value} (hy : ∀ y ∈ ys, ∃ k' c, y = Value.ref c ∧ IsK P w s.heap k' c) (h : Q false s) :
    wpAny (model P w) A (searchCouldBeSeen (.ref b) ys) Q E s := by
  unfold searchCouldBeSeen
  refine wpAny_bind ?_
  refine wpAny_forIn_list _ (fun rest r s' => r.1 = none ∧ s' = s ∧ ∀ y ∈ rest, ∃ k' c, y = Value.ref c ∧ IsK P w s.heap k' c) _ ?_ ?_ _ _ ⟨rfl, rfl, hy⟩
  · rintro v rest r s' ⟨hr, rfl, hall⟩
    obtain ⟨k', c, rfl, hc⟩ := hall v List.mem_cons_self
    have rest' : ∀ y ∈ rest, ∃ k' c, y = Value.ref c ∧ IsK P w s'.heap k' c := fun u hu => hall u (List.mem_cons_of_mem _ hu)
    dsimp only
    by_cases hv : (b == c || (carriedByValue (.ref b) && carriedByValue (.ref c))) = true
    · exact wp_if_pos hv (wpAny_pure ⟨rfl, rfl, rest'⟩)
    · refine wp_if_neg hv ?_
      refine wpAny_bind ((nestedKind P w).quiet hk ?_)
      simp only [Bool.not_true, Bool.false_eq_true, if_false]
      refine wpAny_bind ((nestedKind P w).quiet hc ?_)
      simp only [Bool.not_true, Bool.false_eq_true, if_false]
      refine wpAny_bind (isK_class hk ?_)
      simp only [Bool.false_eq_true, if_false]
      refine wpAny_bind (isK_class hc ?_)
      simp only [Bool.false_eq_true, if_false]
      exact wpAny_pure ⟨rfl, rfl, rest'⟩
  · rintro ⟨r1, r2⟩ s' ⟨hr, rfl, _⟩
    simp only at hr
    subst hr
    exact wpAny_pure h
end
/-- at a stands a set of the keys L -/
structure SM (P : Program) (w : World) (h : Heap) (a : Addr) (L : NL) (es : Array (Int × Value)) (ep : Nat) (t : SetTable) : Prop where
  ob : ∃ o, h.get? a = some o ∧ o.ExactSet ∧ o.data = .set es ep t
  rows : es.toList = nrows w L
  tab : GT t (L.map fun p => nhash w p.2)
  nd : (L.map (·.2)).Nodup
  key : ∀ p ∈ L, IsK P w h p.2 p.1
  led : w.params.followText "set-order" = true ∨ t.led = true
  room : L.length * 5 < t.mask * 3
  few : L.length ≤ 256
section
variable {P : Program} {w : World} {A : Around} {E : Value → Shared → Prop} {s : Shared} {a : Addr} {L : NL} {es : Array (Int × Value)} {ep : Nat} {t : SetTable}
theorem SM.size {h : Heap} (R : SM P w h a L es ep t) : es.size = L.length := by
  have h := congrArg List.length R.rows
  rw [Array.length_toList, List.length_map] at h
  exact h
theorem SM.psize {h : Heap} (R : SM P w h a L es ep t) : t.place.size = L.length := by
  have h := R.tab.same
  rw [List.length_map, Array.length_toList] at h
  exact h
theorem SM.fits {h : Heap} (R : SM P w h a L es ep t) : t.fits es.size = true := by
  have := R.tab.fits (by rw [List.length_map]; have := R.room; omega)
  rw [List.length_map, ← R.size] at this
  exact this
theorem SM.entry {h : Heap} (R : SM P w h a L es ep t) {i : Nat} {p : Addr × NestedKey} (e : L[i]? = some p) : es[i]? = some (nhash w p.2, Value.ref p.1) := by
  rw [← Array.getElem?_toList, R.rows, List.getElem?_map, e]
  rfl
variable {x : Addr} {k : NestedKey}
/-- the search, from the c-th probe on; K is the first empty place of the way -/
theorem sm_from (R : SM P w s.heap a L es ep t) (hx : IsK P w s.heap k x) (hu : A.units + 8 < cLine) (ad : Bool) {K : Nat} (hKf : K < 10 * SetTable.turns t.mask)
    (hK : way t.mask (nhash w k) K ∉ t.place.toList) (hKb : ∀ c, c < K → way t.mask (nhash w k) c ∈ t.place.toList) {Q : SetFound → Shared → Prop}
    (hin : k ∈ L.map (·.2) → ∀ o : Option Nat, (ad = false → o.isSome = true) → Q (.there o) s) (hout : k ∉ L.map (·.2) → Q (.free (way t.mask (nhash w k) K) false) s) :
    ∀ (f c : Nat) (stand : Option SetTable.Probe), stand.getD (t.probeStart (nhash w k)) = prb t.mask (nhash w k) c → c ≤ K → K - c < f →
      (∀ (i : Nat) p, L[i]? = some p → p.2 = k → ∃ c', c ≤ c' ∧ c' < K ∧ t.place.toList[i]? = some (way t.mask (nhash w k) c')) →
      wpAny (model P w) A (setSearchFrom a (.ref x) (nhash w k) ad f stand) Q E s
  | 0, c, stand, _, _, hf, _ => absurd hf (Nat.not_lt_zero _)
  | f + 1, c, stand, hst, hc, hf, hre => by
    obtain ⟨o, ho, hex, hd⟩ := R.ob
    rw [setSearchFrom_succ]
    refine wpAny_bind (wpAny_setState_of ho hd R.fits ?_)
    dsimp only
    refine wp_if_neg R.tab.odd ?_
    try refine wpAny_bind (wpAny_pure ?_)
    have spec := go_spec t R.tab.up R.tab.nodum (fun i => (es[i]?.map (·.1)).getD 0) (nhash w k) (10 * SetTable.turns t.mask) (K - c) (prb t.mask (nhash w k) c) (prb_clean _ _ _) (by omega)
      (fun q hq => by rw [prb_add]; exact hKb (c + q) (by omega)) (by rw [prb_add, show c + (K - c) = K by omega]; exact hK)
    have hashAt : ∀ (i : Nat) p, L[i]? = some p → (es[i]?.map (·.1)).getD 0 = nhash w p.2 := fun i p hp => by
      rw [R.entry hp]
      rfl
    rcases spec with ⟨q, i, hq, hi, hh, hno, hpr⟩ | ⟨hno, hpr⟩
    · rw [prb_add] at hi
      have hpr' : t.probe (fun i => (es[i]?.map (·.1)).getD 0) (nhash w k) (stand.getD (t.probeStart (nhash w k))) = some (.candidate (way t.mask (nhash w k) (c + q)) i (prb t.mask (nhash w k) (c + (q + 1)))) := by
        rw [hst, ← prb_way, ← prb_add, ← prb_add]
        exact hpr
      rw [hpr']
      dsimp only
      have hil : i < L.length := by
        have h1 : i < t.place.toList.length := (List.getElem?_eq_some_iff.mp hi).1
        have h2 := R.psize
        rw [Array.length_toList] at h1
        omega
      obtain ⟨p, hp⟩ : ∃ p, L[i]? = some p := ⟨_, List.getElem?_eq_getElem hil⟩
      have hmem : p ∈ L := List.mem_of_getElem? hp
      have hpt := R.key p hmem
      have rest : wpAny (model P w) A (searchRest a (.ref x) (nhash w k) ad f es t (way t.mask (nhash w k) (c + q)) i (prb t.mask (nhash w k) (c + (q + 1)))) Q E s := by
        unfold searchRest
        rw [R.entry hp]
        dsimp only
        refine wpAny_bind (wpAny_holding ((nestedKind P w).eqBool hu hpt hx ?_))
        refine wpAny_bind (wpAny_setState_of ho hd R.fits ?_)
        dsimp only
        have hsl : t.slot (way t.mask (nhash w k) (c + q)) = .live i := slot_live R.tab.up hi
        by_cases hkk : p.2 = k
        · have hk' : k ∈ L.map (·.2) := List.mem_map.mpr ⟨p, hmem, hkk⟩
          cases ad with
          | true => exact wp_if_pos (by simp [hkk]) (wpAny_pure (hin hk' _ fun z => by cases z))
          | false =>
            refine wp_if_neg (by simp) ?_
            try refine wpAny_bind (wpAny_pure ?_)
            rw [sameMem]
            dsimp only
            simp only [if_true, hsl, R.entry hp]
            refine wpAny_bind (wpAny_isSame_ref_self (wpAny_bind (wpAny_pure ?_)))
            simp only [if_true]
            exact wp_if_pos (by simp [hkk]) (wpAny_pure (hin hk' _ fun _ => rfl))
        · refine wp_if_neg (by simp [hkk]) ?_
          try refine wpAny_bind (wpAny_pure ?_)
          rw [sameMem]
          dsimp only
          simp only [if_true, hsl, R.entry hp]
          refine wpAny_bind (wpAny_isSame_ref_self (wpAny_bind (wpAny_pure ?_)))
          simp only [if_true]
          refine wp_if_neg (by simp [hkk]) ?_
          refine sm_from R hx hu ad hKf hK hKb hin hout f (c + (q + 1)) _ rfl (by omega) (by omega) fun i0 p0 h0 hk0 => ?_
          obtain ⟨c', a1, a2, a3⟩ := hre i0 p0 h0 hk0
          refine ⟨c', ?_, a2, a3⟩
          rcases Nat.lt_trichotomy c' (c + q) with z | z | z
          · exact absurd ((hashAt i0 p0 h0).trans (congrArg (nhash w) hk0)) (hno (c' - c) i0 (by omega) (by rw [prb_add, prb_way, show c + (c' - c) = c' by omega]; exact a3))
          · exfalso
            rw [z] at a3
            have s0 := slot_live R.tab.up a3
            rw [hsl] at s0
            injection s0 with s0
            rw [← s0, hp] at h0
            exact hkk ((congrArg Prod.snd (Option.some.inj h0)).trans hk0)
          · omega
      by_cases hl : t.led = true
      · refine wp_if_neg (by simp [hl]) ?_
        try refine wpAny_bind (wpAny_pure ?_)
        exact rest
      · refine wp_if_pos (by simp [hl]) ?_
        refine wpAny_bind (unseenK hx (fun y hy => ?_) ?_)
        · obtain ⟨e, he, ee⟩ := List.mem_map.mp hy
          have he1 : e ∈ es ∧ e.1 = nhash w k := by simpa using he
          have he2 : e ∈ es.toList := by simpa using he1.1
          rw [R.rows] at he2
          obtain ⟨p2, hp2, e2⟩ := List.mem_map.mp he2
          exact ⟨p2.2, p2.1, by rw [← ee, ← e2], R.key p2 hp2⟩
        · refine wp_if_neg (by decide) ?_
          try refine wpAny_bind (wpAny_pure ?_)
          exact rest
    · have hpr' : t.probe (fun i => (es[i]?.map (·.1)).getD 0) (nhash w k) (stand.getD (t.probeStart (nhash w k))) = some (.empty (way t.mask (nhash w k) K) none) := by
        have e2 : way t.mask (nhash w k) K = (nth t.mask (prb t.mask (nhash w k) c) (K - c)).j := by
          rw [prb_add, prb_way, show c + (K - c) = K by omega]
        rw [hst, e2]
        exact hpr
      rw [hpr']
      dsimp only
      refine wpAny_pure (hout fun hm => ?_)
      obtain ⟨p0, h0, hk0⟩ := List.mem_map.mp hm
      obtain ⟨i0, hi0, e0⟩ := List.getElem_of_mem h0
      have h00 : L[i0]? = some p0 := by rw [List.getElem?_eq_getElem hi0, e0]
      obtain ⟨c', a1, a2, a3⟩ := hre i0 p0 h00 hk0
      exact hno (c' - c) i0 (by omega) (by rw [prb_add, prb_way, show c + (c' - c) = c' by omega]; exact a3) ((hashAt i0 p0 h00).trans (congrArg (nhash w) hk0))
theorem sm_search (R : SM P w s.heap a L es ep t) (hx : IsK P w s.heap k x) (hu : A.units + 8 < cLine) (ad : Bool) {Q : SetFound → Shared → Prop}
    (hin : k ∈ L.map (·.2) → ∀ o : Option Nat, (ad = false → o.isSome = true) → Q (.there o) s)
    (hout : ∀ K, k ∉ L.map (·.2) → way t.mask (nhash w k) K ∉ t.place.toList → (∀ c, c < K → way t.mask (nhash w k) c ∈ t.place.toList) → Q (.free (way t.mask (nhash w k) K) false) s) :
    wpAny (model P w) A (setSearch a (.ref x) (nhash w k) ad) Q E s := by
  have h7 := R.tab.siz.le
  have hf := R.few
  have hroom := R.room
  obtain ⟨K, hKf, hK, hKb⟩ := R.tab.free (by rw [List.length_map]; omega) (nhash w k)
  have hbig : K < 100000 := by
    have : 10 * SetTable.turns t.mask ≤ 99999 := by
      unfold SetTable.turns
      omega
    omega
  unfold setSearch
  refine sm_from R hx hu ad hKf hK hKb hin (fun hn => hout K hn hK hKb) 100000 0 none rfl (Nat.zero_le _) (by omega) fun i p hp hk => ?_
  have hi : (L.map fun p => nhash w p.2)[i]? = some (nhash w k) := by rw [List.getElem?_map, hp, ← hk]; rfl
  have hil : i < t.place.toList.length := by
    have h1 : i < L.length := (List.getElem?_eq_some_iff.mp hp).1
    have h2 := R.psize
    rw [Array.length_toList]
    omega
  have hj := List.getElem?_eq_getElem hil
  obtain ⟨c, hc, e⟩ := R.tab.ahead hK hi hj
  exact ⟨c, Nat.zero_le _, hc, by rw [hj, e]⟩
theorem isK_same {h h' : Heap} {o : Obj} {k : NestedKey} {b : Addr} (x : IsK P w h k b) (ho : h.get? a = some o) (hd : o.data = .set es ep t) (hs : Heap.SameBut a h h') : IsK P w h' k b :=
  nestedKind_stays.stays (fun c ob vs n e q => (hs.2 c fun z => by
    subst z
    rw [ho] at e
    cases e
    rw [hd] at q
    cases q).trans e) x
theorem isK_keep {h h' : Heap} {k : NestedKey} {b : Addr} (x : IsK P w h k b) (hk : ∀ c o, h.get? c = some o → h'.get? c = some o) : IsK P w h' k b :=
  nestedKind_stays.stays (fun c o _ _ e _ => hk c o e) x
theorem nrows_insM (L : NL) (p : Nat) (x : Addr) (k : NestedKey) : nrows w (L.take p ++ (x, k) :: L.drop p) = (nrows w L).take p ++ (nhash w k, Value.ref x) :: (nrows w L).drop p := by
  unfold nrows
  rw [List.map_append, List.map_cons, List.map_take, List.map_drop]
/-- the table laid anew, larger -/
theorem sm_relay {o : Obj} (ho : s.heap.get? a = some o) (hex : o.ExactSet) (hd : o.data = .set es ep t) (hrows : es.toList = nrows w L) (T : GT t (L.map fun p => nhash w p.2)) (hfl : L.length ≤ t.mask)
    (nd : (L.map (·.2)).Nodup) (key : ∀ p ∈ L, IsK P w s.heap p.2 p.1) (ld : w.params.followText "set-order" = true ∨ t.led = true) (few : L.length ≤ 256) {wanted M : Nat}
    (hw : SetTable.sizeAbove wanted = M + 1) (g : Siz M) (hn : L.length * 5 < M * 3) {Q : Unit → Shared → Prop}
    (hQ : ∀ h' L' es' ep' t', Heap.SameBut a s.heap h' → SM P w h' a L' es' ep' t' → L'.Perm L → Q () { s with heap := h' }) : wpAny (model P w) A (setRelay a wanted) Q E s := by
  have hsl : es.size = L.length := by
    have h := congrArg List.length hrows
    rw [Array.length_toList, List.length_map] at h
    exact h
  have hf : t.fits es.size = true := by
    have := T.fits (by rw [List.length_map]; exact hfl)
    rw [List.length_map, ← hsl] at this
    exact this
  have gl := g.le
  obtain ⟨t', order, e, Y⟩ := laid_anew t (hs := es.map (·.1)) (wanted := wanted) (M := M) (by omega) g (by rw [Array.size_map]; omega)
  have pm := Y.perm
  rw [Array.size_map] at pm
  -- the rows in their new order
  have ent : ∀ i (h : i < L.length), es[i]? = some (nhash w (L[i]).2, Value.ref (L[i]).1) := fun i h => by
    rw [← Array.getElem?_toList, hrows, List.getElem?_map, List.getElem?_eq_getElem h]
    rfl
  have walk : ∀ l : List Nat, (∀ i ∈ l, i < L.length) → l.filterMap (fun i => es[i]?) = nrows w (l.filterMap fun i => L[i]?) ∧ ((l.filterMap fun i => L[i]?).map fun p => nhash w p.2) = l.map fun i => (es.map (·.1)).getD i 0 := by
    intro l
    induction l with
    | nil => exact fun _ => ⟨rfl, rfl⟩
    | cons i l ih =>
      intro hl
      have hi := hl i List.mem_cons_self
      obtain ⟨e1, e2⟩ := ih fun j hj => hl j (List.mem_cons_of_mem _ hj)
      have e3 : (es.map (·.1)).getD i 0 = nhash w (L[i]).2 := by
        rw [Array.getD_eq_getD_getElem?, Array.getElem?_map, ent i hi]
        rfl
      rw [List.filterMap_cons_some (ent i hi), List.filterMap_cons_some (List.getElem?_eq_getElem hi), e1, List.map_cons, List.map_cons, e2, e3]
      exact ⟨rfl, rfl⟩
  obtain ⟨r1, r3⟩ := walk order.toList fun i hi => by
    have := List.mem_range.mp (pm.mem_iff.mp hi)
    omega
  have r2 : (order.toList.filterMap fun i => L[i]?).Perm L := by
    have q := pm.filterMap fun i => L[i]?
    have all : ∀ n, n ≤ L.length → (List.range n).filterMap (fun i => L[i]?) = L.take n := by
      intro n
      induction n with
      | zero => exact fun _ => rfl
      | succ n ih =>
        intro hn
        rw [List.range_succ, List.filterMap_append, ih (by omega), List.take_succ, List.filterMap_cons_some (List.getElem?_eq_getElem hn), List.getElem?_eq_getElem hn]
        rfl
    rw [hsl, all _ (Nat.le_refl _), List.take_length] at q
    exact q
  have T' := Y.ok
  rw [← r3] at T'
  have r1 : (order.filterMap (es[·]?)).toList = nrows w (order.toList.filterMap fun i => L[i]?) := by rw [Array.toList_filterMap]; exact r1
  generalize (order.toList.filterMap fun i => L[i]?) = L2 at r1 r2 T'
  have hs2 : (order.filterMap (es[·]?)).size = es.size := by
    have h := congrArg List.length r1
    rw [Array.length_toList, List.length_map, r2.length_eq] at h
    rw [h, hsl]
  rw [setRelay_eq]
  refine wpAny_bind (wpAny_setState_of ho hd hf ?_)
  dsimp only
  refine wp_if_neg (by rw [sizeLine_eq]; omega) ?_
  try refine wpAny_bind (wpAny_pure ?_)
  rw [e]
  dsimp only
  refine wpAny_bind ?_
  refine wp_if_neg (by rw [hs2]; simp) ?_
  try refine wpAny_bind (wpAny_pure ?_)
  refine wpAny_pure ?_
  dsimp only
  refine wpAny_storeSet_of ho hd ?_ (by rw [hs2, hsl, sizeLine_eq]; omega)
  have sb : Heap.SameBut a s.heap (s.heap.update a (Obj.putSet (order.filterMap (es[·]?)) t')) := Heap.SameBut.update ..
  refine hQ _ L2 (order.filterMap (es[·]?)) (ep + 1) t' sb ⟨⟨_, store_at ho hd, ⟨hex.1, hex.2.1, hex.2.2⟩, rfl⟩, r1, T', (r2.map (·.2)).nodup_iff.mpr nd, fun p hp => isK_same (key p (r2.mem_iff.mp hp)) ho hd sb, by rw [Y.led]; exact ld, ?_, by rw [r2.length_eq]; exact few⟩ r2
  rw [r2.length_eq, Y.mask]
  exact hn
/-- one key more -/
theorem sm_add (R : SM P w s.heap a L es ep t) (hx : IsK P w s.heap k x) (hu : A.units + 8 < cLine) (h3 : k ∉ L.map (·.2) → L.length ≤ 255) {Q : Bool → Shared → Prop}
    (hQ : ∀ b h' L' es' ep' t', Heap.SameBut a s.heap h' → SM P w h' a L' es' ep' t' → (k ∈ L.map (·.2) → L' = L) → (k ∉ L.map (·.2) → L'.Perm ((x, k) :: L)) → Q b { s with heap := h' }) :
    wpAny (model P w) A (setAddHashed a (.ref x) (nhash w k)) Q E s := by
  obtain ⟨o, ho, hex, hd⟩ := R.ob
  have hsl := R.size
  have hroom := R.room
  unfold setAddHashed
  refine wpAny_holding ?_
  rw [show (100000 : Nat) = 99999 + 1 from rfl, setAddHashedIn_succ]
  refine wpAny_bind (wpAny_setState_of ho hd R.fits ?_)
  dsimp only
  refine wp_if_neg (by simp [byScan, Value.scannable]) ?_
  try refine wpAny_bind (wpAny_pure ?_)
  refine wpAny_bind (sm_search R hx hu true (fun hm o' _ => ?_) fun K hm hK hb => ?_)
  · dsimp only
    exact wpAny_pure (hQ false s.heap L es ep t (Heap.SameBut.refl a s.heap) R (fun _ => rfl) fun z => absurd hm z)
  · dsimp only
    have h3 := h3 hm
    refine wpAny_bind (wpAny_setState_of ho hd R.fits ?_)
    dsimp only
    obtain ⟨t1, p, Y⟩ := R.tab.put hK hb
    rw [Y.eq]
    dsimp only
    have hrow : (SetTable.insertAt es p (nhash w k, Value.ref x)).toList = nrows w (L.take p ++ (x, k) :: L.drop p) := by
      rw [SetTable.toList_insertAt, nrows_insM, R.rows]
    have pm := put_perm L p (x, k)
    have hlen : (L.take p ++ (x, k) :: L.drop p).length = L.length + 1 := pm.length_eq
    have q3 := Y.ok
    have hhs : (L.take p ++ (x, k) :: L.drop p).map (fun p => nhash w p.2) = (L.map fun p => nhash w p.2).take p ++ nhash w k :: (L.map fun p => nhash w p.2).drop p := by
      rw [List.map_append, List.map_cons, List.map_take, List.map_drop]
    rw [← hhs] at q3
    have nd1 : ((L.take p ++ (x, k) :: L.drop p).map (·.2)).Nodup := by
      refine (pm.map (·.2)).nodup_iff.mpr ?_
      rw [List.map_cons]
      exact List.nodup_cons.mpr ⟨hm, R.nd⟩
    have hes : (SetTable.insertAt es p (nhash w k, Value.ref x)).size = L.length + 1 := by
      have h := congrArg List.length hrow
      rw [Array.length_toList, List.length_map, hlen] at h
      exact h
    generalize SetTable.insertAt es p (nhash w k, Value.ref x) = es1 at hrow hes ⊢
    generalize L.take p ++ (x, k) :: L.drop p = L1 at pm hlen q3 nd1 hrow
    have f1 : t1.fill = L.length + 1 := by rw [Y.fill, List.length_map]
    -- whatever is told of the hash
    have go : ∀ t2 : SetTable, GT t2 (L1.map fun p => nhash w p.2) → t2.mask = t.mask → t2.led = t.led → t2.fill = L.length + 1 →
        wpAny (model P w) A (do storeSet a es1 t2; if (!false && t2.tooFull) = true then (do setRelay a (SetTable.grown (es.size + 1)); pure true) else pure true) Q E s := by
      intro t2 T2 m2 l2 f2
      refine wpAny_bind (wpAny_storeSet_of ho hd ?_ (by rw [hes, sizeLine_eq]; omega))
      have sb : Heap.SameBut a s.heap (s.heap.update a (Obj.putSet es1 t2)) := Heap.SameBut.update ..
      have ho1 := store_at (es' := es1) (t' := t2) ho hd
      generalize s.heap.update a (Obj.putSet es1 t2) = h1 at sb ho1 ⊢
      have key1 : ∀ p ∈ L1, IsK P w h1 p.2 p.1 := fun p hp => by
        rcases List.mem_cons.mp (pm.mem_iff.mp hp) with e | hp
        · rw [e]; exact isK_same hx ho hd sb
        · exact isK_same (R.key p hp) ho hd sb
      have ld1 : w.params.followText "set-order" = true ∨ t2.led = true := by rw [l2]; exact R.led
      by_cases hf : t2.tooFull = true
      · first
          | (refine wpAny_bind ?_; refine wp_if_pos (by simp [hf]) ?_)
          | (refine wp_if_pos (by simp [hf]) ?_; refine wpAny_bind ?_)
        have hfull : (L.length + 1) * 5 ≥ t.mask * 3 := by
          have h := hf
          unfold SetTable.tooFull at h
          rw [decide_eq_true_eq, f2, m2] at h
          exact h
        have next : ∃ M, SetTable.sizeAbove (SetTable.grown (L.length + 1)) = M + 1 ∧ Siz M ∧ (L.length + 1) * 5 < M * 3 := by
          have sz := R.tab.siz
          generalize t.mask = m at hfull hroom sz
          cases sz with
          | a => exact ⟨31, sizes_grown.1 _ (by omega), .b, by omega⟩
          | b => exact ⟨127, sizes_grown.2.1 _ (by omega), .c, by omega⟩
          | c => exact ⟨511, sizes_grown.2.2 _ (by omega), .d, by omega⟩
          | d => omega
        obtain ⟨M, w1, w2, w3⟩ := next
        rw [hsl]
        refine sm_relay (s := { s with heap := h1 }) ho1 ⟨hex.1, hex.2.1, hex.2.2⟩ rfl hrow T2 (by rw [hlen, m2]; omega) nd1 key1 ld1 (by rw [hlen]; omega) w1 w2 (by rw [hlen]; exact w3) fun h2 L2 es2 ep2 t2 sb2 R2 pm2 => ?_
        exact wpAny_pure (hQ true h2 L2 es2 ep2 t2 (sb.trans sb2) R2 (fun z => absurd z hm) fun _ => pm2.trans pm)
      · refine wp_if_neg (by simp [hf]) ?_
        refine wpAny_pure (hQ true h1 L1 es1 (ep + 1) t2 sb ⟨⟨_, ho1, ⟨hex.1, hex.2.1, hex.2.2⟩, rfl⟩, hrow, T2, nd1, key1, ld1, ?_, by rw [hlen]; omega⟩ (fun z => absurd z hm) fun _ => pm)
        have h := hf
        unfold SetTable.tooFull at h
        rw [decide_eq_true_eq, f2] at h
        rw [hlen]
        omega
    have same : GT ({ t1 with plain := false } : SetTable) (L1.map fun p => nhash w p.2) := ⟨q3.up, q3.nodum, q3.same, q3.siz, q3.in_, q3.back⟩
    by_cases hp : t1.plain = true
    · refine wp_if_pos hp (wpAny_bind (isK_said hx fun b => ?_))
      cases b
      · exact go _ same Y.mask Y.led f1
      · exact go _ q3 Y.mask Y.led f1
    · exact wp_if_neg hp (wpAny_bind (wpAny_pure (go _ q3 Y.mask Y.led f1)))
end
end DL

set_option Elab.async false
set_option linter.all false
set_option maxRecDepth 100000
set_option maxHeartbeats 2000000
/-! # set(a tuple of nested tuples), x not in it: over the machine -/
namespace DL
open PySem PySem.Spec L2
open PyProof.Rows hiding St
/-- of the first i of ks, each key is in L once -/
structure Has (ks : NL) (i : Nat) (L : NL) : Prop where
  sub : ∀ p ∈ L, p ∈ ks.take i
  all : ∀ p ∈ ks.take i, p.2 ∈ L.map (·.2)
  len : L.length ≤ i
theorem Has.zero (ks : NL) : Has ks 0 [] := ⟨fun p h => (by cases h), fun p h => (by simp at h), Nat.le_refl _⟩
theorem Has.same {ks L : NL} {i : Nat} {x : Addr × NestedKey} (g : Has ks i L) (h : ks[i]? = some x) (hm : x.2 ∈ L.map (·.2)) : Has ks (i + 1) L := by
  refine ⟨fun p hp => ?_, fun p hp => ?_, Nat.le_succ_of_le g.len⟩
  · rw [take_next h]
    exact List.mem_append_left _ (g.sub p hp)
  · rw [take_next h] at hp
    rcases List.mem_append.mp hp with hp | hp
    · exact g.all p hp
    · rw [List.mem_singleton.mp hp]
      exact hm
theorem Has.more {ks L L' : NL} {i : Nat} {x : Addr × NestedKey} (g : Has ks i L) (h : ks[i]? = some x) (pm : L'.Perm (x :: L)) : Has ks (i + 1) L' := by
  refine ⟨fun p hp => ?_, fun p hp => ?_, ?_⟩
  · rw [take_next h]
    rcases List.mem_cons.mp (pm.mem_iff.mp hp) with rfl | hp
    · exact List.mem_append_right _ (List.mem_singleton.mpr rfl)
    · exact List.mem_append_left _ (g.sub p hp)
  · rw [take_next h] at hp
    refine (pm.map (·.2)).mem_iff.mpr ?_
    rcases List.mem_append.mp hp with hp | hp
    · exact List.mem_cons_of_mem _ (g.all p hp)
    · rw [List.mem_singleton.mp hp]
      exact List.mem_cons_self
  · rw [pm.length_eq, List.length_cons]
    have := g.len
    omega
theorem Has.mem {ks L : NL} (g : Has ks ks.length L) (k : NestedKey) : k ∈ L.map (·.2) ↔ k ∈ ks.map (·.2) := by
  constructor
  · intro h
    obtain ⟨p, hp, rfl⟩ := List.mem_map.mp h
    exact List.mem_map.mpr ⟨p, List.mem_of_mem_take (g.sub p hp), rfl⟩
  · intro h
    obtain ⟨p, hp, rfl⟩ := List.mem_map.mp h
    exact g.all p (by rw [List.take_length]; exact hp)
/-- a set when it is made -/
abbrev fsO (w : World) : Obj := { cls := .type "set", dict := none, data := .set #[] 0 (.fresh 0 0 (!w.params.followText "set-order")) }
section
variable {P : Program} {w : World} {A : Around} {E : Value → Shared → Prop} {s : Shared}
theorem in1_units (A : Around) : A.in1.units ≤ A.units + 1 := by
  first | exact Nat.le_refl _ | (unfold Around.in1; simp) | (simp [Around.in1])
theorem room_in3 {A : Around} (h : A.units + 12 < cLine) : A.in1.in1.in1.units + 8 < cLine := by
  have h1 := in1_units A
  have h2 := in1_units A.in1
  have h3 := in1_units A.in1.in1

  omega
theorem sn_fresh {h : Heap} {a : Addr} (ho : h.get? a = some (fsO w)) : SN P w h a [] #[] 0 (.fresh 0 0 (!w.params.followText "set-order")) where
  ob := ⟨_, ho, ⟨rfl, rfl, rfl⟩, rfl⟩
  rows := rfl
  tab := ⟨List.Pairwise.nil, rfl, rfl, .inl rfl, fun x hx => (by cases hx), fun i h j hi => (by simp at hi)⟩
  m7 := rfl
  nd := List.nodup_nil
  key := fun p hp => (by cases hp)
  plain := rfl
  led := by
    show _ ∨ (!w.params.followText "set-order") = true
    cases w.params.followText "set-order"
    · exact .inr rfl
    · exact .inl rfl
  few := Nat.zero_le _
theorem SN.keep {h h' : Heap} {a : Addr} {L : NL} {es : Array (Int × Value)} {ep : Nat} {t : SetTable} (R : SN P w h a L es ep t) (ha : ∀ o, h.get? a = some o → h'.get? a = some o) (ht : ∀ p ∈ L, IsN P w h' p.2 p.1) : SN P w h' a L es ep t :=
  ⟨by obtain ⟨o, ho, r⟩ := R.ob; exact ⟨o, ha o ho, r⟩, R.rows, R.tab, R.m7, R.nd, ht, R.plain, R.led, R.few⟩
/-- the update's walk -/
theorem update_sn {I : Addr} {fp wr : List Addr} {G : Array GenState → Array GenState → Prop} {n : Nat} {Pv : Nat → Value → Prop} {St : Nat → Shared → Prop} {R : Result → Shared → Prop}
    (W : WalksS P w A.in1 I fp wr G n Pv St) (S : Addr) (hSf : S ∉ fp) (ks : NL) (hn : n = ks.length) (h4 : ks.length ≤ 4) (hval : ∀ i v, Pv i v → ∃ p, ks[i]? = some p ∧ v = .ref p.1)
    (h0 : Heap) (hk : ∀ p ∈ ks, IsN P w h0 p.2 p.1) (hS0 : h0.get? S = none) (hw0 : ∀ b ∈ wr, h0.get? b = none) (hu : A.in1.units + 8 < cLine) :
    ∀ (k i : Nat) (s : Shared), n - i = k → i ≤ n → St i s → (∀ b o, h0.get? b = some o → s.heap.get? b = some o) → (∃ L es ep t, SN P w s.heap S L es ep t ∧ Has ks i L) →
      (∀ s' L es ep t, Moved (S :: wr) G s s' → SN P w s'.heap S L es ep t → Has ks n L → (∀ b o, h0.get? b = some o → s'.heap.get? b = some o) → R (.ok (.ret .none)) s') →
      codeAny (model P w) A (.builtin "set.update.loop" ⟨[.ref S, .ref I], []⟩) R s := by
  have hSw : S ∉ wr := fun h => hSf (W.sub _ h)
  have hsub : ∀ b ∈ wr, b ∈ S :: wr := fun b hb => List.mem_cons_of_mem _ hb
  have stays : ∀ {s s' : Shared}, Moved wr G s s' → (∀ b o, h0.get? b = some o → s.heap.get? b = some o) → ∀ b o, h0.get? b = some o → s'.heap.get? b = some o := fun hm hkp b o e =>
    hm.heap b o (fun hb => by rw [hw0 b hb] at e; cases e) (hkp b o e)
  intro k
  induction k with
  | zero =>
    intro i s hk' hi hst hkp ⟨L, es, ep, t, hS, g⟩ hR
    have hin : i = n := by omega
    subst hin
    refine codeAny_builtin F.entry_set_update_loop ?_
    rw [Around.under_plainId F.plain_set_update_loop _]
    show wpAny _ A.in1 (pyNext (.ref I) >>= _) _ _ s
    refine wpAny_bind (W.done s _ _ hst fun s' hm => ?_)
    show wpAny _ A.in1 (ret Value.none) _ _ s'
    have hkp' := stays hm hkp
    exact wpAny_pure (hR s' L es ep t (hm.mono hsub) (hS.keep (fun o e => hm.heap S o hSw e) fun p hp => isN_keep (hk p (List.mem_of_mem_take (g.sub p hp))) hkp') g hkp')
  | succ k ih =>
    intro i s hk' hi hst hkp ⟨L, es, ep, t, hS, g⟩ hR
    have hlt : i < n := by omega
    refine codeAny_builtin F.entry_set_update_loop ?_
    rw [Around.under_plainId F.plain_set_update_loop _]
    show wpAny _ A.in1 (pyNext (.ref I) >>= _) _ _ s
    refine wpAny_bind (W.item i s _ _ hlt hst fun v s' hP hst' hm => ?_)
    obtain ⟨p, hp, rfl⟩ := hval i v hP
    have hkp' := stays hm hkp
    have hS' : SN P w s'.heap S L es ep t := hS.keep (fun o e => hm.heap S o hSw e) fun q hq => isN_keep (hk q (List.mem_of_mem_take (g.sub q hq))) hkp'
    have hx : IsN P w s'.heap p.2 p.1 := isN_keep (hk p (List.mem_of_getElem? hp)) hkp'
    show wpAny _ A.in1 (holding [Value.ref p.1] (setAdd S (.ref p.1)) >>= _) _ _ s'
    refine wpAny_bind (wpAny_holding ?_)
    unfold setAdd
    refine wpAny_holding ?_
    refine wpAny_bind ((nestedKind P w).pyHash hu hx.1 ?_)
    refine sn_add (s := { s' with toks := s'.toks + p.2.draws }) hS' hx hu (fun _ => by have := g.len; omega) fun b h' L' es' ep' t' hsb hS2 c1 c2 => ?_
    have g' : Has ks (i + 1) L' := by
      rcases Classical.em (p.2 ∈ L.map (·.2)) with c | c
      · rw [c1 c]; exact g.same hp c
      · exact g.more hp (c2 c)
    have hkp2 : ∀ b o, h0.get? b = some o → h'.get? b = some o := fun b o e => (hsb.2 b (fun z => by rw [z, hS0] at e; cases e)).trans (hkp' b o e)
    refine wpAny_pure ⟨plainId_quiet F.plain_set_update_loop _, ih (i + 1) _ (by omega) hlt (W.frame _ s' _ _ hst' (Nat.le_add_right _ _) fun b hb o e => ?_) hkp2 ⟨L', es', ep', t', hS2, g'⟩ fun s'' L2 es2 ep2 t2 hm'' hS'' g'' hkp'' => ?_⟩
    · rw [hsb.2 b (fun h : b = S => hSf (by rw [← h]; exact hb))]; exact e
    · refine hR s'' L2 es2 ep2 t2 (Moved.trans W.gtrans ((hm.mono hsub).then_heap (Nat.le_add_right _ _) fun b o hb e => ?_) hm'') hS'' g'' hkp''
      rw [hsb.2 b (fun h : b = S => hb (by rw [h]; exact List.mem_cons_self))]; exact e
set_option maxHeartbeats 4000000 in
theorem call_set_nest {l : Addr} {items : Array Value} (ks : NL) {Q : Value → Shared → Prop} (hh : A.handled = none) (hl : s.heap.IsTuple l items) (hit : items.toList = ks.map fun p => Value.ref p.1)
    (hk : ∀ p ∈ ks, IsN P w s.heap p.2 p.1) (h4 : ks.length ≤ 4) (hu : A.units + 12 < cLine)
    (h : ∀ (h' : Heap) (tk : Nat) L es ep t, SN P w h' s.heap.objs.size L es ep t → Has ks ks.length L → (∀ b o, s.heap.get? b = some o → h'.get? b = some o) → Q (.ref s.heap.objs.size) { s with heap := h', toks := tk }) :
    wpAny (model P w) A (call (.type "set") [.ref l]) Q E s := by
  have hisz : items.size = ks.length := by
    have q := congrArg List.length hit
    rw [Array.length_toList, List.length_map] at q
    exact q
  obtain ⟨c, tl, hmro⟩ := F.called_set.mro
  have hmade := F.called_set.made
  have hsub := F.called_set.sub
  refine wpAny_call (codeAny_of_tree ?_)
  show wpAny _ _ (callAny (.type "set") _) _ _ _
  refine wpAny_pure ⟨Code.quiet_builtin _ (by decide +kernel), codeAny_builtin F.entry_type_call ?_⟩
  rw [Around.under_plain (weight_type_call_type "set" [.ref l] []) rfl]
  have h1 := F.called_set.notType
  have h2 := F.called_set.canCreate
  have hct := F.typeCall_set_1 (.ref l)
  repeat (any_goals (first | assumption | wp_step))
  refine codeAny_mono (code_set_led1 (.ref l) (E := E) (Q₁ := fun obj s₁ => obj = .ref s.heap.objs.size ∧ s₁ = { s with heap := s.heap.push (fsO w) }) ⟨rfl, rfl⟩) fun r s₁ hr => ?_
  cases r with
  | error e => exact hr
  | ok fl =>
    cases fl with
    | ret obj =>
      obtain ⟨rfl, rfl⟩ := hr
      have hS : (s.heap.push (fsO w)).get? s.heap.objs.size = some (fsO w) := Heap.get?_push_size _ rfl
      have hT : Shared.TypeIs { s with heap := s.heap.push (fsO w) } (.ref s.heap.objs.size) "set" := ⟨_, hS, rfl⟩
      have hli := F.called_set.init.lookup
      have hbi := F.called_set.init.bind (.ref s.heap.objs.size)
      repeat (any_goals (first | assumption | wp_step))
      refine codeAny_mono (codeAny_call_builtin (R := wants (fun r s₂ => r = .none ∧ ∃ h' tk L es ep t, s₂ = { s with heap := h', toks := tk } ∧ SN P w h' s.heap.objs.size L es ep t ∧ Has ks ks.length L ∧
          (∀ b o, s.heap.get? b = some o → h'.get? b = some o)) E) F.called_set.init.plain F.entry_set_init (check_set_init_1 hT ?_)) fun r₂ s₂ hr₂ => ?_
      · obtain ⟨ol, hol, hcl, nl, hdl⟩ := hl
        obtain ⟨ocls, odict, odata, oslots⟩ := ol
        simp only at hcl hdl
        subst hcl; subst hdl
        have hol' : (s.heap.push (fsO w)).get? l = some { cls := .type "tuple", dict := odict, data := .seq items nl, slots := oslots } := Heap.get?_push_of_some _ hol
        have hsls := F.sub_tuple_set
        have hslf := F.sub_tuple_frozenset
        have hne : (Value.type "tuple" == Value.type "dict") = false := by decide
        have hl1 : (s.heap.push (fsO w)).IsTuple l items := ⟨_, hol', rfl, nl, rfl⟩
        unfold Builtin.«set.__init__» noKeywords Builtin.Frozenset.updateFrom
        generalize hPI : pyIter = PI
        wp_walk
        subst hPI
        refine wpAny_pyIter_tuple hl1 ?_
        refine wpAny_bind (wpAny_runValue ?_)
        have hlS : l < s.heap.objs.size := Heap.lt_size hol
        have hh3 : A.in1.in1.in1.handled = none := by simp [hh]
        have hsz : (s.heap.push (fsO w)).objs.size = s.heap.objs.size + 1 := Heap.size_push ..
        have hneI : l ≠ (s.heap.push (fsO w)).objs.size := by
          rw [hsz]; exact Nat.ne_of_lt (Nat.lt_succ_of_lt hlS)
        have hSf : s.heap.objs.size ∉ [(s.heap.push (fsO w)).objs.size, l] := by
          rw [hsz]; simp only [List.mem_cons, List.mem_singleton, List.not_mem_nil, or_false, not_or]
          exact ⟨Nat.ne_of_lt (Nat.lt_succ_self _), Nat.ne_of_gt hlS⟩
        have hval : ∀ (i : Nat) (v : Value), items[i]? = some v → ∃ p, ks[i]? = some p ∧ v = .ref p.1 := fun i v hv => by
          have q : items.toList[i]? = some v := by rw [Array.getElem?_toList]; exact hv
          rw [hit, List.getElem?_map] at q
          cases hq : ks[i]? with
          | none => rw [hq] at q; cases q
          | some p =>
            rw [hq] at q
            exact ⟨p, rfl, (Option.some.inj q).symm⟩
        have none_of : ∀ b, s.heap.objs.size ≤ b → s.heap.get? b = none := fun b hb => by
          cases q : s.heap.get? b with
          | none => rfl
          | some o => exact absurd (Nat.lt_of_lt_of_le (Heap.lt_size q) hb) (Nat.lt_irrefl _)
        refine update_sn ((Walks.tuple hh3 _ l hneI items).toS) s.heap.objs.size
          hSf ks hisz h4 hval s.heap hk (none_of _ (Nat.le_refl _)) (fun b hb => none_of b (by
            rw [List.mem_singleton.mp hb, hsz]
            exact Nat.le_succ _)) (room_in3 hu) (items.size - 0) 0 _ (by omega) (Nat.zero_le _)
          ⟨⟨_, Heap.get?_push_size _ rfl, rfl, rfl⟩, (hl1.push _)⟩ (fun b o e => Heap.get?_push_of_some _ (Heap.get?_push_of_some _ e)) ?hS0 ?hR
        case hS0 => exact ⟨[], #[], 0, _, sn_fresh (Heap.get?_push_of_some _ hS), Has.zero ks⟩
        case hR =>
          intro s' L es ep t hm hS' g' hkp
          obtain ⟨h', g2, d', tk', os'⟩ := s'
          have eg : g2 = s.gens := hm.gens
          have ed : d' = s.drawn := hm.drawn
          have eo : os' = s.os := hm.os
          subst eg; subst ed; subst eo
          show wpAny _ _ _ _ _ _
          refine wpAny_pure ?_
          show wpAny _ _ (ret Value.none) _ _ _
          rw [hisz] at g'
          exact wpAny_pure ⟨rfl, h', tk', L, es, ep, t, rfl, hS', g', hkp⟩
      · cases r₂ with
        | error e => exact hr₂
        | ok fl₂ =>
          cases fl₂ with
          | ret r =>
            obtain ⟨rfl, h', tk, L, es, ep, t, rfl, hS', g', hk'⟩ := hr₂
            repeat (any_goals (first | assumption | wp_step))
            exact h _ _ _ _ _ _ hS' g' hk'
          | _ => exact hr₂.elim
    | _ => exact hr.elim
/-- x not in it -/
theorem notin_sn {a x : Addr} {L : NL} {es : Array (Int × Value)} {ep : Nat} {t : SetTable} {k : NestedKey} {Q : Value → Shared → Prop} (R : SN P w s.heap a L es ep t) (hx : IsN P w s.heap k x) (hu : A.units + 12 < cLine)
    (h : ∀ tk, Q (.bool (!decide (k ∈ L.map (·.2)))) { s with toks := tk }) : wpAny (model P w) A (compareOp .NotIn (.ref x) (.ref a)) Q E s := by
  have hT : s.TypeIs (.ref a) "set" := by
    obtain ⟨o, ho, hc, _⟩ := R.ob
    exact ⟨o, ho, hc.1⟩
  show wpAny _ _ (do return .bool (!(← contains (.ref a) (.ref x)))) Q E s
  refine wpAny_bind ?_
  unfold contains
  try with_reducible refine wpAny_holding ?_
  refine wpAny_bind (wpAny_specialOf hT F.slot_set_contains.lookup ?_)
  show wpAny _ _ (if (some (Value.builtin "set.__contains__") == some Value.none) = true then _ else _) _ E s
  rw [if_neg (by rw [beq_builtin_none]; exact Bool.false_ne_true)]
  refine wpAny_bind (wpAny_callSpecialUnlessNone?_slot (name := Str.ofString "__contains__") hT F.slot_set_contains
    (wpAny_call_entry F.slot_set_contains hT entry_set_contains ?_ (F.args_set_contains_2 _ _)))
  unfold Builtin.«frozenset.__contains__» Builtin.Frozenset.oneOther
  simp only [List.isEmpty_nil, bind_assoc]
  unfold Builtin.Frozenset.addrOf Builtin.Frozenset.withSetAsKey setContains
  refine wpAny_bind (wpAny_pure ?_)
  try dsimp only
  refine wpAny_bind (wpAny_pure ?_)
  try dsimp only
  refine wpAny_bind (wpAny_tryCatch ?_)
  refine wpAny_holding ?_
  refine wpAny_bind ((nestedKind P w).pyHash (by show A.units + _ + 8 < cLine; omega) hx.1 ?_)
  have fin : ∀ (b : Bool), b = decide (k ∈ L.map (·.2)) → ∀ r : Option Nat, r.isSome = b → Q (.bool (!r.isSome)) { s with toks := s.toks + k.draws } := fun b hb r hr => by
    rw [hr, hb]
    exact h _
  obtain ⟨o, ho, hex, hd⟩ := R.ob
  refine wpAny_bind ?_
  unfold setFind
  rw [show (100000 : Nat) = 99999 + 1 from rfl]
  unfold setFindIn
  refine wpAny_bind (wpAny_setState_of (s := { s with toks := s.toks + k.draws }) ho hd R.fits ?_)
  dsimp only
  refine wp_if_neg (by simp [byScan, Value.scannable]) ?_
  try refine wpAny_bind (wpAny_pure ?_)
  refine wpAny_bind (sn_search (s := { s with toks := s.toks + k.draws }) R hx (by show A.units + _ + 8 < cLine; omega) false (fun hm o' hs => ?_) fun K hm hK hb => ?_)
  · refine wpAny_pure (wpAny_pure (wpAny_pure ⟨_, rfl, wpAny_truthy_bool (wpAny_pure (fin _ (by simp [hm]) _ (hs rfl)))⟩))
  · refine wpAny_pure (wpAny_pure (wpAny_pure ⟨_, rfl, wpAny_truthy_bool (wpAny_pure (fin false (by simp [hm]) none rfl))⟩))
end
end DL

set_option Elab.async false
set_option linter.all false
set_option maxRecDepth 100000
set_option maxHeartbeats 2000000
/-! # set(a tuple of up to 256 nested tuples), x not in it: over the machine -/
namespace DL
open PySem PySem.Spec L2
open PyProof.Rows hiding St
section
variable {P : Program} {w : World} {A : Around} {E : Value → Shared → Prop} {s : Shared}
theorem sm_fresh {h : Heap} {a : Addr} (ho : h.get? a = some (fsO w)) : SM P w h a [] #[] 0 (.fresh 0 0 (!w.params.followText "set-order")) where
  ob := ⟨_, ho, ⟨rfl, rfl, rfl⟩, rfl⟩
  rows := rfl
  tab := ⟨List.Pairwise.nil, rfl, rfl, .a, fun x hx => (by cases hx), fun e he => (by cases he)⟩
  nd := List.nodup_nil
  key := fun p hp => (by cases hp)
  led := by
    show _ ∨ (!w.params.followText "set-order") = true
    cases w.params.followText "set-order"
    · exact .inr rfl
    · exact .inl rfl
  room := by show 0 * 5 < 7 * 3; decide
  few := Nat.zero_le _
theorem SM.keep {h h' : Heap} {a : Addr} {L : NL} {es : Array (Int × Value)} {ep : Nat} {t : SetTable} (R : SM P w h a L es ep t) (ha : ∀ o, h.get? a = some o → h'.get? a = some o) (ht : ∀ p ∈ L, IsK P w h' p.2 p.1) : SM P w h' a L es ep t :=
  ⟨by obtain ⟨o, ho, r⟩ := R.ob; exact ⟨o, ha o ho, r⟩, R.rows, R.tab, R.nd, ht, R.led, R.room, R.few⟩
/-- the update's walk -/
theorem update_sm {I : Addr} {fp wr : List Addr} {G : Array GenState → Array GenState → Prop} {n : Nat} {Pv : Nat → Value → Prop} {St : Nat → Shared → Prop} {R : Result → Shared → Prop}
    (W : WalksS P w A.in1 I fp wr G n Pv St) (S : Addr) (hSf : S ∉ fp) (ks : NL) (hn : n = ks.length) (h4 : ks.length ≤ 256) (hval : ∀ i v, Pv i v → ∃ p, ks[i]? = some p ∧ v = .ref p.1)
    (h0 : Heap) (hk : ∀ p ∈ ks, IsK P w h0 p.2 p.1) (hS0 : h0.get? S = none) (hw0 : ∀ b ∈ wr, h0.get? b = none) (hu : A.in1.units + 8 < cLine) :
    ∀ (k i : Nat) (s : Shared), n - i = k → i ≤ n → St i s → (∀ b o, h0.get? b = some o → s.heap.get? b = some o) → (∃ L es ep t, SM P w s.heap S L es ep t ∧ Has ks i L) →
      (∀ s' L es ep t, Moved (S :: wr) G s s' → SM P w s'.heap S L es ep t → Has ks n L → (∀ b o, h0.get? b = some o → s'.heap.get? b = some o) → R (.ok (.ret .none)) s') →
      codeAny (model P w) A (.builtin "set.update.loop" ⟨[.ref S, .ref I], []⟩) R s := by
  have hSw : S ∉ wr := fun h => hSf (W.sub _ h)
  have hsub : ∀ b ∈ wr, b ∈ S :: wr := fun b hb => List.mem_cons_of_mem _ hb
  have stays : ∀ {s s' : Shared}, Moved wr G s s' → (∀ b o, h0.get? b = some o → s.heap.get? b = some o) → ∀ b o, h0.get? b = some o → s'.heap.get? b = some o := fun hm hkp b o e =>
    hm.heap b o (fun hb => by rw [hw0 b hb] at e; cases e) (hkp b o e)
  intro k
  induction k with
  | zero =>
    intro i s hk' hi hst hkp ⟨L, es, ep, t, hS, g⟩ hR
    have hin : i = n := by omega
    subst hin
    refine codeAny_builtin F.entry_set_update_loop ?_
    rw [Around.under_plainId F.plain_set_update_loop _]
    show wpAny _ A.in1 (pyNext (.ref I) >>= _) _ _ s
    refine wpAny_bind (W.done s _ _ hst fun s' hm => ?_)
    show wpAny _ A.in1 (ret Value.none) _ _ s'
    have hkp' := stays hm hkp
    exact wpAny_pure (hR s' L es ep t (hm.mono hsub) (hS.keep (fun o e => hm.heap S o hSw e) fun p hp => isK_keep (hk p (List.mem_of_mem_take (g.sub p hp))) hkp') g hkp')
  | succ k ih =>
    intro i s hk' hi hst hkp ⟨L, es, ep, t, hS, g⟩ hR
    have hlt : i < n := by omega
    refine codeAny_builtin F.entry_set_update_loop ?_
    rw [Around.under_plainId F.plain_set_update_loop _]
    show wpAny _ A.in1 (pyNext (.ref I) >>= _) _ _ s
    refine wpAny_bind (W.item i s _ _ hlt hst fun v s' hP hst' hm => ?_)
    obtain ⟨p, hp, rfl⟩ := hval i v hP
    have hkp' := stays hm hkp
    have hS' : SM P w s'.heap S L es ep t := hS.keep (fun o e => hm.heap S o hSw e) fun q hq => isK_keep (hk q (List.mem_of_mem_take (g.sub q hq))) hkp'
    have hx : IsK P w s'.heap p.2 p.1 := isK_keep (hk p (List.mem_of_getElem? hp)) hkp'
    show wpAny _ A.in1 (holding [Value.ref p.1] (setAdd S (.ref p.1)) >>= _) _ _ s'
    refine wpAny_bind (wpAny_holding ?_)
    unfold setAdd
    refine wpAny_holding ?_
    refine wpAny_bind ((nestedKind P w).pyHash hu hx ?_)
    refine sm_add (s := { s' with toks := s'.toks + p.2.draws }) hS' hx hu (fun _ => by have := g.len; omega) fun b h' L' es' ep' t' hsb hS2 c1 c2 => ?_
    have g' : Has ks (i + 1) L' := by
      rcases Classical.em (p.2 ∈ L.map (·.2)) with c | c
      · rw [c1 c]; exact g.same hp c
      · exact g.more hp (c2 c)
    have hkp2 : ∀ b o, h0.get? b = some o → h'.get? b = some o := fun b o e => (hsb.2 b (fun z => by rw [z, hS0] at e; cases e)).trans (hkp' b o e)
    refine wpAny_pure ⟨plainId_quiet F.plain_set_update_loop _, ih (i + 1) _ (by omega) hlt (W.frame _ s' _ _ hst' (Nat.le_add_right _ _) fun b hb o e => ?_) hkp2 ⟨L', es', ep', t', hS2, g'⟩ fun s'' L2 es2 ep2 t2 hm'' hS'' g'' hkp'' => ?_⟩
    · rw [hsb.2 b (fun h : b = S => hSf (by rw [← h]; exact hb))]; exact e
    · refine hR s'' L2 es2 ep2 t2 (Moved.trans W.gtrans ((hm.mono hsub).then_heap (Nat.le_add_right _ _) fun b o hb e => ?_) hm'') hS'' g'' hkp''
      rw [hsb.2 b (fun h : b = S => hb (by rw [h]; exact List.mem_cons_self))]; exact e
set_option maxHeartbeats 4000000 in
theorem call_set_many {l : Addr} {items : Array Value} (ks : NL) {Q : Value → Shared → Prop} (hh : A.handled = none) (hl : s.heap.IsTuple l items) (hit : items.toList = ks.map fun p => Value.ref p.1)
    (hk : ∀ p ∈ ks, IsK P w s.heap p.2 p.1) (h4 : ks.length ≤ 256) (hu : A.units + 12 < cLine)
    (h : ∀ (h' : Heap) (tk : Nat) L es ep t, SM P w h' s.heap.objs.size L es ep t → Has ks ks.length L → (∀ b o, s.heap.get? b = some o → h'.get? b = some o) → Q (.ref s.heap.objs.size) { s with heap := h', toks := tk }) :
    wpAny (model P w) A (call (.type "set") [.ref l]) Q E s := by
  have hisz : items.size = ks.length := by
    have q := congrArg List.length hit
    rw [Array.length_toList, List.length_map] at q
    exact q
  obtain ⟨c, tl, hmro⟩ := F.called_set.mro
  have hmade := F.called_set.made
  have hsub := F.called_set.sub
  refine wpAny_call (codeAny_of_tree ?_)
  show wpAny _ _ (callAny (.type "set") _) _ _ _
  refine wpAny_pure ⟨Code.quiet_builtin _ (by decide +kernel), codeAny_builtin F.entry_type_call ?_⟩
  rw [Around.under_plain (weight_type_call_type "set" [.ref l] []) rfl]
  have h1 := F.called_set.notType
  have h2 := F.called_set.canCreate
  have hct := F.typeCall_set_1 (.ref l)
  repeat (any_goals (first | assumption | wp_step))
  refine codeAny_mono (code_set_led1 (.ref l) (E := E) (Q₁ := fun obj s₁ => obj = .ref s.heap.objs.size ∧ s₁ = { s with heap := s.heap.push (fsO w) }) ⟨rfl, rfl⟩) fun r s₁ hr => ?_
  cases r with
  | error e => exact hr
  | ok fl =>
    cases fl with
    | ret obj =>
      obtain ⟨rfl, rfl⟩ := hr
      have hS : (s.heap.push (fsO w)).get? s.heap.objs.size = some (fsO w) := Heap.get?_push_size _ rfl
      have hT : Shared.TypeIs { s with heap := s.heap.push (fsO w) } (.ref s.heap.objs.size) "set" := ⟨_, hS, rfl⟩
      have hli := F.called_set.init.lookup
      have hbi := F.called_set.init.bind (.ref s.heap.objs.size)
      repeat (any_goals (first | assumption | wp_step))
      refine codeAny_mono (codeAny_call_builtin (R := wants (fun r s₂ => r = .none ∧ ∃ h' tk L es ep t, s₂ = { s with heap := h', toks := tk } ∧ SM P w h' s.heap.objs.size L es ep t ∧ Has ks ks.length L ∧
          (∀ b o, s.heap.get? b = some o → h'.get? b = some o)) E) F.called_set.init.plain F.entry_set_init (check_set_init_1 hT ?_)) fun r₂ s₂ hr₂ => ?_
      · obtain ⟨ol, hol, hcl, nl, hdl⟩ := hl
        obtain ⟨ocls, odict, odata, oslots⟩ := ol
        simp only at hcl hdl
        subst hcl; subst hdl
        have hol' : (s.heap.push (fsO w)).get? l = some { cls := .type "tuple", dict := odict, data := .seq items nl, slots := oslots } := Heap.get?_push_of_some _ hol
        have hsls := F.sub_tuple_set
        have hslf := F.sub_tuple_frozenset
        have hne : (Value.type "tuple" == Value.type "dict") = false := by decide
        have hl1 : (s.heap.push (fsO w)).IsTuple l items := ⟨_, hol', rfl, nl, rfl⟩
        unfold Builtin.«set.__init__» noKeywords Builtin.Frozenset.updateFrom
        generalize hPI : pyIter = PI
        wp_walk
        subst hPI
        refine wpAny_pyIter_tuple hl1 ?_
        refine wpAny_bind (wpAny_runValue ?_)
        have hlS : l < s.heap.objs.size := Heap.lt_size hol
        have hh3 : A.in1.in1.in1.handled = none := by simp [hh]
        have hsz : (s.heap.push (fsO w)).objs.size = s.heap.objs.size + 1 := Heap.size_push ..
        have hneI : l ≠ (s.heap.push (fsO w)).objs.size := by
          rw [hsz]; exact Nat.ne_of_lt (Nat.lt_succ_of_lt hlS)
        have hSf : s.heap.objs.size ∉ [(s.heap.push (fsO w)).objs.size, l] := by
          rw [hsz]; simp only [List.mem_cons, List.mem_singleton, List.not_mem_nil, or_false, not_or]
          exact ⟨Nat.ne_of_lt (Nat.lt_succ_self _), Nat.ne_of_gt hlS⟩
        have hval : ∀ (i : Nat) (v : Value), items[i]? = some v → ∃ p, ks[i]? = some p ∧ v = .ref p.1 := fun i v hv => by
          have q : items.toList[i]? = some v := by rw [Array.getElem?_toList]; exact hv
          rw [hit, List.getElem?_map] at q
          cases hq : ks[i]? with
          | none => rw [hq] at q; cases q
          | some p =>
            rw [hq] at q
            exact ⟨p, rfl, (Option.some.inj q).symm⟩
        have none_of : ∀ b, s.heap.objs.size ≤ b → s.heap.get? b = none := fun b hb => by
          cases q : s.heap.get? b with
          | none => rfl
          | some o => exact absurd (Nat.lt_of_lt_of_le (Heap.lt_size q) hb) (Nat.lt_irrefl _)
        refine update_sm ((Walks.tuple hh3 _ l hneI items).toS) s.heap.objs.size
          hSf ks hisz h4 hval s.heap hk (none_of _ (Nat.le_refl _)) (fun b hb => none_of b (by
            rw [List.mem_singleton.mp hb, hsz]
            exact Nat.le_succ _)) (room_in3 hu) (items.size - 0) 0 _ (by omega) (Nat.zero_le _)
          ⟨⟨_, Heap.get?_push_size _ rfl, rfl, rfl⟩, (hl1.push _)⟩ (fun b o e => Heap.get?_push_of_some _ (Heap.get?_push_of_some _ e)) ?hS0 ?hR
        case hS0 => exact ⟨[], #[], 0, _, sm_fresh (Heap.get?_push_of_some _ hS), Has.zero ks⟩
        case hR =>
          intro s' L es ep t hm hS' g' hkp
          obtain ⟨h', g2, d', tk', os'⟩ := s'
          have eg : g2 = s.gens := hm.gens
          have ed : d' = s.drawn := hm.drawn
          have eo : os' = s.os := hm.os
          subst eg; subst ed; subst eo
          show wpAny _ _ _ _ _ _
          refine wpAny_pure ?_
          show wpAny _ _ (ret Value.none) _ _ _
          rw [hisz] at g'
          exact wpAny_pure ⟨rfl, h', tk', L, es, ep, t, rfl, hS', g', hkp⟩
      · cases r₂ with
        | error e => exact hr₂
        | ok fl₂ =>
          cases fl₂ with
          | ret r =>
            obtain ⟨rfl, h', tk, L, es, ep, t, rfl, hS', g', hk'⟩ := hr₂
            repeat (any_goals (first | assumption | wp_step))
            exact h _ _ _ _ _ _ hS' g' hk'
          | _ => exact hr₂.elim
    | _ => exact hr.elim
/-- x not in it -/
theorem notin_sm {a x : Addr} {L : NL} {es : Array (Int × Value)} {ep : Nat} {t : SetTable} {k : NestedKey} {Q : Value → Shared → Prop} (R : SM P w s.heap a L es ep t) (hx : IsK P w s.heap k x) (hu : A.units + 12 < cLine)
    (h : ∀ tk, Q (.bool (!decide (k ∈ L.map (·.2)))) { s with toks := tk }) : wpAny (model P w) A (compareOp .NotIn (.ref x) (.ref a)) Q E s := by
  have hT : s.TypeIs (.ref a) "set" := by
    obtain ⟨o, ho, hc, _⟩ := R.ob
    exact ⟨o, ho, hc.1⟩
  show wpAny _ _ (do return .bool (!(← contains (.ref a) (.ref x)))) Q E s
  refine wpAny_bind ?_
  unfold contains
  try with_reducible refine wpAny_holding ?_
  refine wpAny_bind (wpAny_specialOf hT F.slot_set_contains.lookup ?_)
  show wpAny _ _ (if (some (Value.builtin "set.__contains__") == some Value.none) = true then _ else _) _ E s
  rw [if_neg (by rw [beq_builtin_none]; exact Bool.false_ne_true)]
  refine wpAny_bind (wpAny_callSpecialUnlessNone?_slot (name := Str.ofString "__contains__") hT F.slot_set_contains
    (wpAny_call_entry F.slot_set_contains hT entry_set_contains ?_ (F.args_set_contains_2 _ _)))
  unfold Builtin.«frozenset.__contains__» Builtin.Frozenset.oneOther
  simp only [List.isEmpty_nil, bind_assoc]
  unfold Builtin.Frozenset.addrOf Builtin.Frozenset.withSetAsKey setContains
  refine wpAny_bind (wpAny_pure ?_)
  try dsimp only
  refine wpAny_bind (wpAny_pure ?_)
  try dsimp only
  refine wpAny_bind (wpAny_tryCatch ?_)
  refine wpAny_holding ?_
  refine wpAny_bind ((nestedKind P w).pyHash (by show A.units + _ + 8 < cLine; omega) hx ?_)
  have fin : ∀ (b : Bool), b = decide (k ∈ L.map (·.2)) → ∀ r : Option Nat, r.isSome = b → Q (.bool (!r.isSome)) { s with toks := s.toks + k.draws } := fun b hb r hr => by
    rw [hr, hb]
    exact h _
  obtain ⟨o, ho, hex, hd⟩ := R.ob
  refine wpAny_bind ?_
  unfold setFind
  rw [show (100000 : Nat) = 99999 + 1 from rfl]
  unfold setFindIn
  refine wpAny_bind (wpAny_setState_of (s := { s with toks := s.toks + k.draws }) ho hd R.fits ?_)
  dsimp only
  refine wp_if_neg (by simp [byScan, Value.scannable]) ?_
  try refine wpAny_bind (wpAny_pure ?_)
  refine wpAny_bind (sm_search (s := { s with toks := s.toks + k.draws }) R hx (by show A.units + _ + 8 < cLine; omega) false (fun hm o' hs => ?_) fun K hm hK hb => ?_)
  · refine wpAny_pure (wpAny_pure (wpAny_pure ⟨_, rfl, wpAny_truthy_bool (wpAny_pure (fin _ (by simp [hm]) _ (hs rfl)))⟩))
  · refine wpAny_pure (wpAny_pure (wpAny_pure ⟨_, rfl, wpAny_truthy_bool (wpAny_pure (fin false (by simp [hm]) none rfl))⟩))
end
end DL

set_option Elab.async false
set_option linter.all false
set_option maxRecDepth 100000
set_option maxHeartbeats 2000000
/-! # Dicts whose keys are nested tuples: walks, list, sorted; while; min and sum of data -/
namespace DL
open PySem PySem.Spec L2
open PyProof.Rows hiding St
/-! ### walks -/
section
variable {X : Cx} {W : WX} {β : Bx} {H : Hp} {d : Addr} {o : Obj} {es : KEs} {kvs : List (D × D)}
theorem two_sz : (2 : Nat) ≤ sizeLine := by decide
theorem NRel.at_ (n : NRel X β H es kvs) {i : Nat} {e : NestedKey × Addr × V} (h : es[i]? = some e) : ∃ q, kvs[i]? = some q ∧ Rep (zOf X) β H (.ref e.2.1) q.1 ∧ Rep (zOf X) β H e.2.2 q.2 := by
  have hi : i < kvs.length := by rw [← n.len]; exact (List.getElem?_eq_some_iff.mp h).1
  have hq : kvs[i]? = some kvs[i] := List.getElem?_eq_getElem hi
  obtain ⟨v1, g1, q1⟩ := n.r1.get (i := i) (d := kvs[i].1) (by rw [List.getElem?_map, hq]; rfl)
  obtain ⟨v2, g2, q2⟩ := n.r2.get (i := i) (d := kvs[i].2) (by rw [List.getElem?_map, hq]; rfl)
  rw [List.getElem?_map, h] at g1 g2
  cases g1
  cases g2
  exact ⟨_, hq, q1, q2⟩
theorem itd_nI (hd : H d = some (.frz o (dictN (zOf X) d es))) (n : NRel X β H es kvs) : ItD (zOf X) β H (ItnI (zOf X) d o es) (kvs.map fun q => .tup [q.1, q.2]) where
  go := fun β' H' i e hi => ⟨e.frz _ _ _ hd, by rw [List.length_map] at hi; rw [n.len]; exact hi⟩
  yld := fun β' H' i x H'' dd e hdd hy => by
    obtain ⟨T, en, he, rfl, nT, rfl⟩ := hy
    obtain ⟨q, hq, q1, q2⟩ := n.at_ he
    rw [List.getElem?_map, hq] at hdd
    cases hdd
    have e3 := e.trans (Ext.new (β := β') (o := .tup [.ref en.2.1, en.2.2]) nT).mv
    exact ⟨same_new nT, .tup (.inl (.inl upd_same)) (.cons (Rep.move e3 _ _ q1) (.cons (Rep.move e3 _ _ q2) .nil)) two_sz⟩
  stop := fun β' H' i e hi => ⟨e.frz _ _ _ hd, by rw [List.length_map] at hi; rw [n.len]; exact hi⟩
theorem itd_nV (hd : H d = some (.frz o (dictN (zOf X) d es))) (n : NRel X β H es kvs) : ItD (zOf X) β H (ItnV (zOf X) d o es) (kvs.map (·.2)) where
  go := fun β' H' i e hi => ⟨e.frz _ _ _ hd, by rw [List.length_map] at hi; rw [n.len]; exact hi⟩
  yld := fun β' H' i x H'' dd e hdd hy => by
    obtain ⟨rfl, en, he, rfl⟩ := hy
    obtain ⟨q, hq, q1, q2⟩ := n.at_ he
    rw [List.getElem?_map, hq] at hdd
    cases hdd
    exact ⟨Same.refl _, Rep.move e _ _ q2⟩
  stop := fun β' H' i e hi => ⟨e.frz _ _ _ hd, by rw [List.length_map] at hi; rw [n.len]; exact hi⟩
end
def gItemsN (f : G D) : G (List D) := fun ρ st => (f ρ st).bind fun d s1 => match dNR d s1 with
  | some (n, kvs) => if kvs.length ≤ 16000000 then .ok (kvs.map fun q => .tup [q.1, q.2]) (s1.set n (.fN kvs)) else .bad
  | none => .bad
def gValsN (f : G D) : G (List D) := fun ρ st => (f ρ st).bind fun d s1 => match dNR d s1 with
  | some (n, kvs) => if kvs.length ≤ 16000000 then .ok (kvs.map (·.2)) (s1.set n (.fN kvs)) else .bad
  | none => .bad
section
variable {X : Cx} {W : WX} {tg e : Expr} {f : G D} {apos cpos : Pos}
/-- it is walked from now on -/
theorem frz_post {β0 β : Bx} {H0 H : Hp} {st : Sto} {n : Nat} {a : Addr} {es : KEs} {kvs : List (D × D)} {J : Obj → It} {items : List D} {R : It → Hp → Prop} (hst : st[n]? = some (.dN kvs) ∨ st[n]? = some (.fN kvs)) (hm : β.lo[n]? = some a) (S : StoOk (zOf X) β H st) (nd : NDic X H a es) (rr : NRel X β H es kvs)
    (it : ∀ (o : Obj) (H' : Hp), H' a = some (.frz o (dictN (zOf X) a es)) → NRel X β H' es kvs → ItD (zOf X) β H' (J o) items) (e0 : Ext β0 H0 β H) (h : ∀ J' β' H', Ext β0 H0 β' H' → StoOk (zOf X) β' H' (st.set n (.fN kvs)) → ItD (zOf X) β' H' J' items → R J' H') :
    (H a = some (dictN (zOf X) a es) ∧ ∀ o, R (J o) (upd H a (.frz o (dictN (zOf X) a es)))) ∨ ∃ o, H a = some (.frz o (dictN (zOf X) a es)) ∧ R (J o) H := by
  rcases nd.1 with hH | ⟨o, hH⟩
  · refine .inl ⟨hH, fun o => ?_⟩
    have ew : Ext β H β (upd H a (.frz o (dictN (zOf X) a es))) := Ext.write hm hH (fun _ z => by unfold dictN at z; cases z) (fun _ _ z => by unfold dictN at z; cases z) (fun _ _ z => dictN_ne_code z) (fun _ z => by cases z)
    have n2 := rr.move ew.mv
    exact h _ β _ (e0.trans ew) (S.write hm ew ⟨o, es, upd_same, n2.len, n2.key, n2.r1, n2.r2⟩) (it o _ upd_same n2)
  · refine .inr ⟨o, hH, ?_⟩
    refine h _ β H e0 ?_ (it o H hH rr)
    have hf : st[n]? = some (.fN kvs) := by
      rcases hst with hst | hst
      · obtain ⟨so, hso, rel⟩ := S.get hm
        rw [hst] at hso
        cases hso
        obtain ⟨es', h', _⟩ := rel
        rw [hH] at h'
        unfold dictN at h'
        cases h'
      · exact hst
    rw [show st.set n (.fN kvs) = st from List.ext_getElem? fun j => by
      by_cases hj : n = j
      · subst hj
        rw [List.getElem?_set_self (List.getElem?_eq_some_iff.mp hf).1, hf]
      · rw [List.getElem?_set_ne hj]]
    exact S
theorem di_itemsN {elts : List Expr} {kk : Nat} {tpos : Pos} (he : DE X W e f) (hbase : attributeBase e "items" X.env (eval e X.env) = eval e X.env := by rfl) (hline : (apos.endLine == cpos.line) = true := by rfl) : DI X W (.Tuple elts kk tpos) (.Call (.Attribute e "items" apos) [] [] cpos) (gItemsN f) := by
  refine PImono (pi_nI he hbase hline) fun σ H R h => ?_
  obtain ⟨β, ρ, st, hρ, hs, h⟩ := h
  refine tD_intro hρ hs (Out.sat_bind h) (fun d s1 h1 v β1 H1 e1 S1 r1 => ?_) fun _ _ q => q
  split at h1
  · rename_i n kvs hd
    split at h1
    · rename_i hz
      obtain ⟨rfl, hst, a, es, rfl, hm, nd, rr⟩ := dNR_ok hd r1 S1
      exact ⟨a, es, rfl, frz_post (J := fun o => ItnI (zOf X) a o es) hst hm S1 nd rr (fun o H' hH' n => itd_nI hH' n) e1 fun J' β' H' e' S' it => h1 J' β' H' e' S' it (by rw [List.length_map, sizeLine_eq]; omega)⟩
    · exact h1.elim
  · exact h1.elim
theorem di_valsN (he : DE X W e f) (hbase : attributeBase e "values" X.env (eval e X.env) = eval e X.env := by rfl) (hline : (apos.endLine == cpos.line) = true := by rfl) : DI X W tg (.Call (.Attribute e "values" apos) [] [] cpos) (gValsN f) := by
  refine PImono (pi_nV he hbase hline) fun σ H R h => ?_
  obtain ⟨β, ρ, st, hρ, hs, h⟩ := h
  refine tD_intro hρ hs (Out.sat_bind h) (fun d s1 h1 v β1 H1 e1 S1 r1 => ?_) fun _ _ q => q
  split at h1
  · rename_i n kvs hd
    split at h1
    · rename_i hz
      obtain ⟨rfl, hst, a, es, rfl, hm, nd, rr⟩ := dNR_ok hd r1 S1
      exact ⟨a, es, rfl, frz_post (J := fun o => ItnV (zOf X) a o es) hst hm S1 nd rr (fun o H' hH' n => itd_nV hH' n) e1 fun J' β' H' e' S' it => h1 J' β' H' e' S' it (by rw [List.length_map, sizeLine_eq]; omega)⟩
    · exact h1.elim
  · exact h1.elim
end
/-! ### while -/
def whileGo (t : G Bool) (b : G Fl) : Nat → DL.Env → Sto → Out Fl
  | 0, _, _ => .bad
  | k + 1, ρ, st => (t ρ st).bind fun c s1 => if c = true then (b ρ s1).bind fun r s2 => match r with
    | .nx ρ' => whileGo t b k ρ' s2
    | .ct ρ' => whileGo t b k ρ' s2
    | .bk ρ' => .ok (.nx ρ') s2
    | .rt d => .ok (.rt d) s2
    else .ok (.nx ρ) s1
def sWhile (k : Nat) (t : G Bool) (b : G Fl) : G Fl := fun ρ st => whileGo t b k ρ st
theorem ds_while {X : Cx} {W : WX} {pos : Pos} {c : Expr} {t : G Bool} {u : G Fl} {body : List Stmt} (k : Nat) (hp : PassesOwn (model X.prog X.w) X.A X.env X.xe) (hc : DT X W c t) (hb : DSs X W body u) : DS X W (.While c body [] pos) (sWhile k t u) := by
  refine PSmono (ps_while hp hc hb) fun D' σ H h => ?_
  obtain ⟨β, ρ, st, hρ, hs, h⟩ := h
  let Iv : Nat → L2.St → Hp → Prop := fun m σ' H' => ∃ β' ρ' st', Ext β H β' H' ∧ RepEnv (zOf X) β' H' σ' ρ' ∧ StoOk (zOf X) β' H' st' ∧ (whileGo t u m ρ' st').sat (PostF (zOf X) D' β H) (PostXS (zOf X) X.mg W β H)
  refine ⟨Iv, ⟨k, β, ρ, st, Ext.refl _ _, hρ, hs, h⟩, ?_⟩
  rintro m σ' H' ⟨β', ρ', st', ex, hρ', S', go⟩
  cases m with
  | zero => exact go.elim
  | succ m =>
    refine tDT_intro hρ' S' (Out.sat_bind go) (fun c s1 h1 β1 H1 e1 S1 => ?_) fun _ _ q => (xs_x q).ext ex
    cases c with
    | true =>
      rw [if_pos rfl] at h1 ⊢
      refine ⟨Iv m, fun σ2 H2 hq => ⟨m, Nat.lt_succ_self m, hq⟩, β1, ρ', s1, hρ'.ext e1, S1, (Out.sat_bind h1).mono (fun r s4 h4 => ?_) fun _ _ q => q.ext (ex.trans e1)⟩
      cases r with
      | nx ρ4 => exact fun σ4 β4 H4 e4 S4 r4 => ⟨β4, ρ4, s4, (ex.trans e1).trans e4, r4, S4, h4⟩
      | ct ρ4 => exact fun σ4 β4 H4 e4 S4 r4 => ⟨β4, ρ4, s4, (ex.trans e1).trans e4, r4, S4, h4⟩
      | bk ρ4 => exact fun σ4 β4 H4 e4 S4 r4 => h4 σ4 β4 H4 ((ex.trans e1).trans e4) S4 r4
      | rt d => exact fun v4 β4 H4 e4 S4 r4 => h4 v4 β4 H4 ((ex.trans e1).trans e4) S4 r4
    | false =>
      rw [if_neg (by simp)] at h1 ⊢
      exact h1 σ' β1 H1 (ex.trans e1) S1 (hρ'.ext e1)
end DL

set_option Elab.async false
set_option linter.all false
set_option maxRecDepth 100000
set_option maxHeartbeats 2000000
/-! # list(d), sorted of data, sum, min of two data -/
namespace DL
open PySem PySem.Spec L2 PySem.W
open PyProof.Rows hiding St
abbrev srtB (bs : List (V × PyData)) : List (V × PyData) := bs.mergeSort (dataLe false (·.2))
/-- what sorting asks of the items -/
structure SrtAsk (K : PySem.W.Frag) (H : Hp) (xs : List V) (ps : List PyData) : Prop where
  dp : DpAll K H xs ps
  al : AllAlike ps
  so : Sortable ps
  dp30 : ∀ d ∈ ps, d.depth ≤ 30
section
variable {X : Cx} {pins : List (Addr × Obj)} {σ : L2.St} {H : Hp} {s : Shared}
theorem dpAll_len {K : PySem.W.Frag} : ∀ {xs : List V} {ps : List PyData}, DpAll K H xs ps → xs.length = ps.length
  | [], _, h => by cases h; rfl
  | x :: xs, _, h => by cases h with | cons h1 h2 => rw [List.length_cons, List.length_cons, dpAll_len h2]
theorem each_rel (I : Inv X pins σ H s) : ∀ {xs : List V} {ps : List PyData} {us : List Value}, DpAll X.K H xs ps → Vals xs us → EachIs (fun u (b : V × PyData) => RelV b.1 u) us (xs.zip ps) ∧ EachIs (fun u (b : V × PyData) => ∃ as, Reads s.heap u b.2 as) us (xs.zip ps)
  | [], _, _, h, r => by
    cases h
    cases r
    exact ⟨.nil, .nil⟩
  | x :: xs, _, _, h, r => by
    cases h with
    | cons h1 h2 =>
      cases r with
      | cons r1 r2 =>
        obtain ⟨e1, e2⟩ := each_rel I h2 r2
        exact ⟨.cons r1 e1, .cons (h1.reads I _ _ _ r1) e2⟩
theorem zip_snd {xs : List V} {ps : List PyData} (h : xs.length = ps.length) : (xs.zip ps).map (·.2) = ps := List.map_snd_zip (by omega)
theorem each_vals : ∀ {us : List Value} {bs : List (V × PyData)}, EachIs (fun u (b : V × PyData) => RelV b.1 u) us bs → Vals (bs.map (·.1)) us
  | [], _, h => by cases h; exact .nil
  | u :: us, _, h => by cases h with | cons h1 h2 => exact .cons h1 (each_vals h2)
theorem srt_sortable {P : List PyData} {bs : List (V × PyData)} (e : bs.map (·.2) = P) : bs.map (fun b => b.2) = P := e
end
def rSrt (K : PySem.W.Frag) : List V → Hp → VK → Prop := fun vs H Q => ∃ (a : Addr) (xs : List V) (ps : List PyData), vs = [V.ref a] ∧ SqL K H a xs ∧ SrtAsk K H xs ps ∧ ∀ p, H p = none → Q (.ref p) (upd H p (.lst ((srtB (xs.zip ps)).map (·.1))))
section
variable {X : Cx}
theorem cr_srt (hu : X.A.units + 64 < cLine) : CallR X (.builtin "sorted") (rSrt X.K) := by
  intro pins s σ H vs us Q I r h
  obtain ⟨a, xs, ps, rfl, hs, ask, q⟩ := h
  obtain ⟨its, rv, hl, hz⟩ := I.list hs
  rw [Vals.ref1 r]
  obtain ⟨e1, e2⟩ := each_rel I ask.dp rv
  have hlen := dpAll_len ask.dp
  have hm : (xs.zip ps).map (fun b => b.2) = ps := zip_snd hlen
  have hzl : (xs.zip ps).length = xs.length := by rw [List.length_zip]; omega
  refine sorted_data (enc := fun b : V × PyData => b.2) (R := fun u b => RelV b.1 u) hl.isList e1 e2 (by rw [hm]; exact ask.al) (by rw [hm]; exact ask.so) (by rw [hzl]; exact hz) (fun b hb => ?_) fun out hol ho => ?_
  · have : b.2 ∈ ps := by rw [← hm]; exact List.mem_map.mpr ⟨b, hb, rfl⟩
    have := ask.dp30 _ this
    omega
  · obtain ⟨ep, he'⟩ := PyProof.Rows.sortedAll_at s.heap its out.toArray
    have hv : Vals ((srtB (xs.zip ps)).map (·.1)) out := each_vals ho
    refine ⟨.ref _, upd H (s.heap.objs.size + 1) (.lst ((srtB (xs.zip ps)).map (·.1))), I.laid (t' := s.toks) (fun _ _ => PyProof.Rows.sortedAll_old) (Nat.le_succ _) ⟨?_, out, ep, hv, he'⟩, rfl, q _ (I.hok.fresh (Nat.le_succ _))⟩
    rw [List.length_map, List.length_mergeSort, hzl]
    exact hz
/-! ### list(d), sorted(d) -/
def rListN (X : Cx) : List V → Hp → VK → Prop := fun vs H Q => ∃ (a : Addr) (es : KEs), vs = [V.ref a] ∧ NDic X H a es ∧ ∀ q, H q = none → Q (.ref q) (upd H q (.lst (es.map fun e => V.ref e.2.1)))
theorem nd_raw {pins : List (Addr × Obj)} {σ : L2.St} {H : Hp} {s : Shared} {a : Addr} {es : KEs} (I : Inv X pins σ H s) (n : NDic X H a es) : (a == sysModules) = false ∧ es.length ≤ sizeLine ∧ ∃ (en : Array DictEntry) (ep : Nat), s.heap.DictRaw a en ep ∧ en.size = es.length ∧ ∀ (i : Nat) (e : NestedKey × Addr × V), es[i]? = some e → ∃ hi : i < en.size, en[i].key = .ref e.2.1 := by
  obtain ⟨h1, h2, h3, h4, us, g1, o, en, ep, q1, q2, q3, q4, q5, q6⟩ := nd_heap I n
  have hs : en.size = es.length := by
    have := congrArg List.length q4
    rw [List.length_map, xs_len g1, Array.length_toList] at this
    exact this
  refine ⟨h3, h2, en, ep, ⟨o, q1, q2, q3⟩, hs, fun i e he => ?_⟩
  have hi : i < es.length := (List.getElem?_eq_some_iff.mp he).1
  have hi' : i < en.size := by rw [hs]; exact hi
  have hv : (es.map (·.2.2))[i]? = some e.2.2 := by rw [List.getElem?_map, he]; rfl
  obtain ⟨u, hu, ru⟩ := g1.get hv
  have hx : (xsOf es us)[i]? = some (e.1, e.2.1, u) := by
    unfold xsOf
    rw [List.getElem?_map, List.getElem?_zip_eq_some (z := (e, u)) |>.mpr ⟨he, hu⟩]
    rfl
  have hen : en.toList[i]? = some (entryOfKey (nestedKind X.prog X.w) (e.1, e.2.1, u)) := by rw [q4, List.getElem?_map, hx]; rfl
  rw [Array.getElem?_toList, Array.getElem?_eq_getElem hi'] at hen
  have hen := Option.some.inj hen
  exact ⟨hi', by rw [hen]; rfl⟩
theorem keys_vals {s : Shared} {en : Array DictEntry} {es : KEs} {acc : Array Value} {d : Addr} (hs : en.size = es.length) (hk : ∀ (i : Nat) (e : NestedKey × Addr × V), es[i]? = some e → ∃ hi : i < en.size, en[i].key = .ref e.2.1) (h : ItemsOf (fun i v => ∃ hi : i < en.size, v = en[i].key) acc en.size) : Vals (es.map fun e => V.ref e.2.1) acc.toList := by
  have el : acc.toList.length = acc.size := by simp
  refine vals_of_at (by rw [List.length_map, el, h.1, hs]) fun j x w h1 h2 => ?_
  obtain ⟨hi, e1⟩ := h.2 j w (by rw [← Array.getElem?_toList]; exact h2)
  rw [List.getElem?_map, Option.map_eq_some_iff] at h1
  obtain ⟨e, he, rfl⟩ := h1
  obtain ⟨hi2, e2⟩ := hk j e he
  exact e1.trans e2
theorem call_listN (hc : X.calm = true) : CallR X (.type "list") (rListN X) := by
  intro pins s σ H vs us Q I r h
  obtain ⟨a, es, rfl, n, q⟩ := h
  rw [Vals.ref1 r]
  obtain ⟨h3, h2, en, ep, hr, hs, hk⟩ := nd_raw I n
  refine PySem.W.kdl_call (KdlSrc.rawDict (es := en) (ep := ep) h3) (I.ok.hd hc) hr (by rw [hs]; exact h2) fun h' tk acc' c' hkeep hS hacc => ?_
  refine ⟨.ref s.heap.objs.size, upd H s.heap.objs.size (.lst (es.map fun e => V.ref e.2.1)), I.laid hkeep (Nat.le_refl _) ⟨?_, acc'.toList, c', keys_vals (s := s) (d := a) hs hk hacc, ?_⟩, rfl, q _ (I.hok.fresh (Nat.le_refl _))⟩
  · rw [List.length_map]; exact h2
  · rw [Array.toArray_toList]; exact hS
def rSrtN (X : Cx) : List V → Hp → VK → Prop := fun vs H Q => ∃ (a : Addr) (es : KEs) (ps : List PyData), vs = [V.ref a] ∧ NDic X H a es ∧ SrtAsk X.K H (es.map fun e => V.ref e.2.1) ps ∧ ∀ p, H p = none → Q (.ref p) (upd H p (.lst ((srtB ((es.map fun e => V.ref e.2.1).zip ps)).map (·.1))))
theorem cr_srtN (hc : X.calm = true) (hu : X.A.units + 64 < cLine) : CallR X (.builtin "sorted") (rSrtN X) := by
  intro pins s σ H vs us Q I r h
  obtain ⟨a, es, ps, rfl, n, ask, q⟩ := h
  rw [Vals.ref1 r]
  obtain ⟨h3, h2, en, ep, hr, hs, hk⟩ := nd_raw I n
  refine Calls.call_function_entry PyProof.Rows.kind_sorted PyProof.Rows.plain_sorted PyProof.Rows.entry_sorted (PyProof.Rows.args_sorted1 _) ?_
  unfold Builtin.«sorted»
  refine wpAny_bind (m := checkCount "sorted" 1 1 _) (wpAny_pure ?_)
  refine wpAny_bind (PySem.W.kdu_collect (A := X.A.in1) (KdlSrc.rawDict (es := en) (ep := ep) h3) (I.ok.hd hc) hr (by rw [hs]; exact h2) fun h' tk acc hkeep hacc => ?_)
  have hV : Vals (es.map fun e => V.ref e.2.1) acc.toList := keys_vals (s := s) (d := a) hs hk hacc
  have hal : acc.toList.length = es.length := by rw [← hV.length, List.length_map]
  have hz : acc.toList.length ≤ sizeLine := by rw [hal]; exact h2
  have I1 : Inv X pins σ H { s with heap := h', toks := tk } := I.kept hkeep
  refine wpAny_bind (wpAny_newList ?_ hz)
  have hoL : (h'.push (seqObj "list" acc.toList.toArray 0)).get? h'.objs.size = some (seqObj "list" acc.toList.toArray 0) := Heap.get?_push_size _ rfl
  obtain ⟨e1, e2⟩ := each_rel I1 ask.dp hV
  have hlen := dpAll_len ask.dp
  have hm : ((es.map fun e => V.ref e.2.1).zip ps).map (fun b => b.2) = ps := zip_snd hlen
  have hzl : ((es.map fun e => V.ref e.2.1).zip ps).length = es.length := by rw [List.length_zip]; rw [List.length_map] at hlen ⊢; omega
  have e2' : EachIs (fun u (b : V × PyData) => ∃ as, Reads (sortingHeap (h'.push (seqObj "list" acc.toList.toArray 0)) h'.objs.size acc.toList) u b.2 as) acc.toList ((es.map fun e => V.ref e.2.1).zip ps) :=
    e2.mono fun _ _ ⟨as, r⟩ => ⟨as, Reads.keeps (fun b o e => sortingHeap_old (Nat.ne_of_lt (Heap.lt_size e)) (Heap.get?_push_of_some _ e)) r⟩
  show wpAny _ _ _ _ _ { s with heap := h'.push (seqObj "list" acc.toList.toArray 0), toks := tk }
  refine wpAny_bind (wpAny_holding (wpAny_call_entry PyProof.Rows.slot_list_sort ⟨_, hoL, rfl⟩ PyProof.Rows.entry_list_sort
    (list_sort_vals (s := { s with heap := h'.push (seqObj "list" acc.toList.toArray 0), toks := tk }) (κ := dataKind (sortingHeap (h'.push (seqObj "list" acc.toList.toArray 0)) h'.objs.size acc.toList) (((es.map fun e => V.ref e.2.1).zip ps).map fun b => b.2)) hoL
      (SortsAt.data (s := { s with heap := sortingHeap (h'.push (seqObj "list" acc.toList.toArray 0)) h'.objs.size acc.toList, toks := tk }) (each_map (R := fun u d => ∃ as, Reads _ u d as) (fun b : V × PyData => b.2) e2') (by rw [hm]; exact ask.al) (by rw [hm]; exact ask.so) (fun d hd => ?_)) hz ⟨_, rfl, ?_⟩)
    (PyProof.Rows.args_list_sort _)))
  · rw [hm] at hd
    have := ask.dp30 _ hd
    simp only [Around.in1_units]
    omega
  · have ho := sortVals_data (h' := sortingHeap (h'.push (seqObj "list" acc.toList.toArray 0)) h'.objs.size acc.toList) (enc := fun b : V × PyData => b.2) (R := fun u b => RelV b.1 u) false e1 e2' (by rw [hm]; exact ask.al)
    obtain ⟨e', he'⟩ := PyProof.Rows.sortedHeap_at (vs := acc.toList) (out := (sortVals (dataKind (sortingHeap (h'.push (seqObj "list" acc.toList.toArray 0)) h'.objs.size acc.toList) (((es.map fun e => V.ref e.2.1).zip ps).map fun b => b.2)) false acc.toList acc.toList).toArray) hoL
    refine wpAny_pure ⟨_, rfl, .ref h'.objs.size, upd H h'.objs.size (.lst ((srtB ((es.map fun e => V.ref e.2.1).zip ps)).map (·.1))), I1.laid (t' := tk) (fun b u e => ?_) (Nat.le_refl _) ⟨?_, _, e', each_vals ho, he'⟩, rfl, q _ (I1.hok.fresh (Nat.le_refl _))⟩
    · have hb : b < h'.objs.size := Heap.lt_size e
      rw [PyProof.Rows.sortedHeap_old (Nat.ne_of_lt hb) (by rw [size_push']; exact Nat.lt_succ_of_lt hb)]
      exact Heap.get?_push_of_some _ e
    · rw [List.length_map, List.length_mergeSort, hzl]
      exact h2
/-! ### min(x, y) of data -/
def rMin2D (K : PySem.W.Frag) : List V → Hp → VK → Prop := fun vs H Q => ∃ (x y : V) (dx dy : PyData), vs = [x, y] ∧ Dp K H x dx ∧ Dp K H y dy ∧ AlikeAll [dx, dy] ∧ PyData.depthAll [dx, dy] ≤ 30 ∧ Q (if dataLt dy dx = true then y else x) H
theorem cr_min2D (hc : X.calm = true) (hu : X.A.units + 64 < cLine) : CallR X (.builtin "min") (rMin2D X.K) := by
  intro pins s σ H vs us Q I r h
  obtain ⟨x, y, dx, dy, rfl, hx, hy, ha, hd, q⟩ := h
  obtain ⟨u1, u2, rfl, r1, r2⟩ := vals2 r
  obtain ⟨as, ra⟩ := hx.reads I _ _ _ r1
  obtain ⟨bs, rb⟩ := hy.reads I _ _ _ r2
  refine min_two_data (I.ok.hd hc) ra rb ha (by omega) fun h' tk hk => ⟨_, H, I.kept hk, ?_, q⟩
  split
  · exact r2
  · exact r1
end
end DL

set_option Elab.async false
set_option linter.all false
set_option maxRecDepth 100000
set_option maxHeartbeats 2000000
/-! # list(d), sorted of data, sum, min of two data: by data -/
namespace DL
open PySem PySem.Spec L2 PySem.W
open PyProof.Rows hiding St
def sortD (l : List D) : List D := l.mergeSort (dataLe false D.py)
def isNT : D → Bool
  | .tup (_ :: _) => true
  | _ => false
/-- what sorting asks of the items -/
def okSrt (l : List D) : Bool := l.all fun a => a.py.canLay0 && decide (a.py.depth ≤ 30) && isNT a && l.all fun b => alike a.py b.py
def mSortD : List D → Sto → Option D
  | [.lst l], _ => if okSrt l = true then some (.lst (sortD l)) else none
  | _, _ => none
def mSortN : List D → Sto → Option D
  | [d], st => match dNR d st with
    | some (_, kvs) => if okSrt (kvs.map (·.1)) = true ∧ kvs.length ≤ 16000000 then some (.lst (sortD (kvs.map (·.1)))) else none
    | none => none
  | _, _ => none
def mListDN : List D → Sto → Option D
  | [d], st => match dNR d st with
    | some (_, kvs) => if kvs.length ≤ 16000000 then some (.lst (kvs.map (·.1))) else none
    | none => none
  | _, _ => none
def mSumI : List D → Sto → Option D
  | [.lst l], _ => (intsOf l).map fun ns => .int ns.sum
  | _, _ => none
def isTp : D → Bool
  | .tup _ => true
  | _ => false
def mMin2D : List D → Sto → Option D
  | [a, b], _ => if (a.py.canLay0 && b.py.canLay0 && isTp a && isTp b && alike a.py b.py && alike b.py a.py && alike a.py a.py && alike b.py b.py && decide (a.py.depth ≤ 30) && decide (b.py.depth ≤ 30)) = true then some (if dataLt b.py a.py = true then b else a) else none
  | _, _ => none
theorem canAll : ∀ {l : List D}, (∀ a ∈ l, a.py.canLay0 = true) → PyData.canLayAll0 (D.pys l) = true
  | [], _ => by simp [D.pys, PyData.canLayAll0]
  | d :: l, h => by
    simp only [D.pys, PyData.canLayAll0, Bool.and_eq_true]
    exact ⟨h d List.mem_cons_self, canAll fun a ha => h a (List.mem_cons_of_mem _ ha)⟩
theorem isNT_py {d : D} (h : isNT d = true) : ∃ x r, d.py = .tuple (x :: r) := by
  cases d with
  | tup l =>
    cases l with
    | nil => cases h
    | cons a l => exact ⟨a.py, D.pys l, by simp [D.py, D.pys]⟩
  | _ => cases h
theorem isTp_py {d : D} (h : isTp d = true) : ∃ r, d.py = .tuple r := by
  cases d with
  | tup l => exact ⟨D.pys l, by simp [D.py]⟩
  | _ => cases h
section
variable {X : Cx} {K : Zx} {β : Bx} {H : Hp}
theorem okSrt_mem {l : List D} (h : okSrt l = true) : ∀ a ∈ l, a.py.canLay0 = true ∧ a.py.depth ≤ 30 ∧ isNT a = true ∧ ∀ b ∈ l, alike a.py b.py = true := by
  intro a ha
  have := List.all_eq_true.mp h a ha
  simp only [Bool.and_eq_true, decide_eq_true_eq, List.all_eq_true] at this
  exact ⟨this.1.1.1, this.1.1.2, this.1.2, this.2⟩
theorem srt_ask {l : List D} {xs : List V} (h : okSrt l = true) (r : Reps K β H xs l) : SrtAsk K H xs (l.map D.py) := by
  have m := okSrt_mem h
  refine ⟨?_, fun d hd d' hd' => ?_, .inl fun d hd => ?_, fun d hd => ?_⟩
  · rw [← pys_map]
    exact Reps.dp l xs (canAll fun a ha => (m a ha).1) r
  · obtain ⟨a, ha, rfl⟩ := List.mem_map.mp hd
    obtain ⟨b, hb, rfl⟩ := List.mem_map.mp hd'
    exact (m a ha).2.2.2 b hb
  · obtain ⟨a, ha, rfl⟩ := List.mem_map.mp hd
    exact isNT_py (m a ha).2.2.1
  · obtain ⟨a, ha, rfl⟩ := List.mem_map.mp hd
    exact (m a ha).2.1
theorem reps_pairs : ∀ {L : List (V × D)}, (∀ p ∈ L, Rep K β H p.1 p.2) → Reps K β H (L.map (·.1)) (L.map (·.2))
  | [], _ => .nil
  | p :: L, h => .cons (h p List.mem_cons_self) (reps_pairs fun q hq => h q (List.mem_cons_of_mem _ hq))
theorem reps_zip : ∀ {xs : List V} {l : List D}, Reps K β H xs l → ∀ p ∈ xs.zip l, Rep K β H p.1 p.2
  | _, _, .nil, p, h => by simp at h
  | _, _, .cons r t, p, h => by
    rw [List.zip_cons_cons] at h
    rcases List.mem_cons.mp h with rfl | h
    · exact r
    · exact reps_zip t p h
theorem reps_srt {l : List D} {xs : List V} (r : Reps K β H xs l) : Reps K β H ((srtB (xs.zip (l.map D.py))).map (·.1)) (sortD l) := by
  have hl := r.length
  have e1 : xs.zip (l.map D.py) = (xs.zip l).map fun p => (p.1, p.2.py) := by
    rw [List.zip_map_right]
    rfl
  have e2 : srtB (xs.zip (l.map D.py)) = ((xs.zip l).mergeSort (dataLe false fun p : V × D => p.2.py)).map fun p => (p.1, p.2.py) := by
    rw [e1]
    exact (List.map_mergeSort (r := dataLe false fun p : V × D => p.2.py) (s := dataLe false fun p : V × PyData => p.2) (f := fun p : V × D => (p.1, p.2.py)) (l := xs.zip l) fun a _ b _ => rfl).symm
  have e3 : sortD l = ((xs.zip l).mergeSort (dataLe false fun p : V × D => p.2.py)).map (·.2) := by
    have : l = (xs.zip l).map (·.2) := (List.map_snd_zip (by omega)).symm
    unfold sortD
    conv => lhs; rw [this]
    exact (List.map_mergeSort (r := dataLe false fun p : V × D => p.2.py) (s := dataLe false D.py) (f := fun p : V × D => p.2) (l := xs.zip l) fun a _ b _ => rfl).symm
  rw [e2, e3, List.map_map]
  exact reps_pairs fun p hp => reps_zip r p ((List.mergeSort_perm _ _).mem_iff.mp hp)
theorem sortD_len (l : List D) : (sortD l).length = l.length := List.length_mergeSort _
theorem cd_srt : CallD K (rSrt K) mSortD := by
  intro β H st xs ds d Q r S e q
  match ds, r, e with
  | [.lst l], r, e =>
    obtain ⟨v, rfl, r1⟩ := r.one
    simp only [mSortD] at e
    split at e
    · rename_i hz
      cases e
      cases r1 with
      | lst h1 hn h2 h3 =>
        refine ⟨_, _, _, rfl, SqL.of h1, srt_ask hz h2, fun p hp => ?_⟩
        exact q _ _ (same_new hp) (.lst upd_same (S.nmem hp) (Reps.ext (Ext.new hp) _ _ (reps_srt h2)) (by rw [sortD_len]; exact h3))
    · cases e
theorem cd_srtN : CallD (zOf X) (rSrtN X) mSortN := by
  intro β H st xs ds d Q r S e q
  match ds, r, e with
  | [d0], r, e =>
    obtain ⟨v, rfl, r1⟩ := r.one
    simp only [mSortN] at e
    split at e
    · rename_i n kvs hd
      split at e
      · rename_i hz
        cases e
        obtain ⟨rfl, hst, a, es, rfl, hm, nd, rr⟩ := dNR_ok hd r1 S
        refine ⟨a, es, _, rfl, nd, srt_ask hz.1 rr.r1, fun p hp => ?_⟩
        refine q _ _ (same_new hp) (.lst upd_same (S.nmem hp) (Reps.ext (Ext.new hp) _ _ (reps_srt rr.r1)) ?_)
        rw [sortD_len, List.length_map, sizeLine_eq]
        have := hz.2
        omega
      · cases e
    · cases e
theorem cd_listN : CallD (zOf X) (rListN X) mListDN := by
  intro β H st xs ds d Q r S e q
  match ds, r, e with
  | [d0], r, e =>
    obtain ⟨v, rfl, r1⟩ := r.one
    simp only [mListDN] at e
    split at e
    · rename_i n kvs hd
      split at e
      · rename_i hz
        cases e
        obtain ⟨rfl, hst, a, es, rfl, hm, nd, rr⟩ := dNR_ok hd r1 S
        refine ⟨a, es, rfl, nd, fun p hp => ?_⟩
        refine q _ _ (same_new hp) (.lst upd_same (S.nmem hp) (Reps.ext (Ext.new hp) _ _ rr.r1) ?_)
        rw [List.length_map, sizeLine_eq]
        omega
      · cases e
    · cases e
theorem cd_sumI : CallD K (rSum K) mSumI := by
  intro β H st xs ds d Q r S e q
  match ds, r, e with
  | [.lst l], r, e =>
    obtain ⟨v, rfl, r1⟩ := r.one
    simp only [mSumI, Option.map_eq_some_iff] at e
    obtain ⟨ns, hn, rfl⟩ := e
    have el := intsOf_eq hn
    subst el
    cases r1 with
    | lst h1 hn' h2 h3 =>
      have ex := reps_intsV h2
      subst ex
      exact ⟨_, ns, rfl, SqL.of h1, q _ _ (Same.refl H) (.int _)⟩
theorem cd_min2D : CallD K (rMin2D K) mMin2D := by
  intro β H st xs ds d Q r S e q
  match ds, r, e with
  | [a, b], r, e =>
    obtain ⟨v, w', rfl, r1, r2⟩ := r.two
    simp only [mMin2D] at e
    split at e
    · rename_i hz
      cases e
      simp only [Bool.and_eq_true, decide_eq_true_eq] at hz
      obtain ⟨⟨⟨⟨⟨⟨⟨⟨⟨h1, h2⟩, h3⟩, h4⟩, h5⟩, h6⟩, h7⟩, h8⟩, h9⟩, h10⟩ := hz
      obtain ⟨y1, ea⟩ := isTp_py h3
      obtain ⟨y2, eb⟩ := isTp_py h4
      refine ⟨v, w', a.py, b.py, rfl, Rep.dp a v h1 r1, Rep.dp b w' h2 r2, ⟨fun x hx y hy => ?_, fun x hx => ?_⟩, ?_, ?_⟩
      · have hx : x = a.py ∨ x = b.py := by simpa using hx
        have hy : y = a.py ∨ y = b.py := by simpa using hy
        rcases hx with rfl | rfl <;> rcases hy with rfl | rfl <;> assumption
      · have hx : x = a.py ∨ x = b.py := by simpa using hx
        rcases hx with rfl | rfl
        · rw [ea]; intro z; cases z
        · rw [eb]; intro z; cases z
      · simp only [PyData.depthAll]
        omega
      · by_cases hlt : dataLt b.py a.py = true
        · rw [if_pos hlt] at q ⊢
          exact q _ _ (Same.refl H) r2
        · rw [if_neg hlt] at q ⊢
          exact q _ _ (Same.refl H) r1
    · cases e
end
end DL

set_option Elab.async false
set_option linter.all false
set_option maxRecDepth 100000
set_option maxHeartbeats 2000000
/-! # d[k] of a dict that is written in the text -/
namespace DL
open PySem PySem.Spec L2
open PyProof.Rows hiding St
theorem de_kix {X : Cx} {W : WX} {pos : Pos} {d : Addr} {es : Array DictEntry} {n : Nat} {tab : List (Str × D)} {o e : Expr} {f : G D} (D' : KDict X.K X.w d es n) (T : KTab (zOf X) d tab) (ho : PE X o (tC (.ref d))) (he : DE X W e f) (hs : PlainIx e := by exact fun _ _ => rfl) : DE X W (.Subscript o e pos) (gKIx tab f) := by
  refine PEmono (pe_ix ix_kdict ho he hs) fun σ H Q h => ?_
  obtain ⟨β, ρ, st, hρ, hs, h⟩ := h
  show tD (zOf X) X.mg W f σ H _
  refine tD_intro hρ hs (Out.sat_bind h) (fun k s1 h1 v β1 H1 e1 S1 r1 => ?_) fun _ _ q => q
  cases k with
  | str z =>
    cases r1
    obtain ⟨r, hr, t⟩ := T z
    have h1 : (oout (tab.lookup z) s1).sat (PostV (zOf X) Q β H) (PostX (zOf X) X.mg (fun c d H' => W c d σ H') β H) := h1
    obtain ⟨x, q, p⟩ := oout_sat h1
    rw [q] at t
    obtain ⟨u, v, e2, rv, rp⟩ := t
    subst e2
    exact ⟨d, z, v, rfl, rfl, ⟨es, n, u, D'.at_, D'.lit, hr, rv⟩, p v β1 H1 e1 S1 (rp β1 H1)⟩
  | _ => exact h1.elim
end DL

set_option Elab.async false
set_option linter.all false
set_option maxRecDepth 100000
set_option maxHeartbeats 2000000
/-! # Rows for simp: dicts with nested keys -/
namespace DL
open PySem PySem.Spec L2
open PyProof.Rows hiding St
section
variable {ρ : Env} {st s1 s2 : Sto} {d e v x i : D} {l : List D} {n : Nat} {f g fo fi fv fx fk : G D} {fs : G (List D)} {kvs : List (D × D)} {k : NestedKey}
theorem dnA_at (h : st[n]? = some (.dN kvs)) : dNAt (.ref n) st = some (n, kvs) := by simp only [dNAt, h]
theorem dnR_at (h : st[n]? = some (.dN kvs) ∨ st[n]? = some (.fN kvs)) : dNR (.ref n) st = some (n, kvs) := by
  rcases h with h | h <;> simp only [dNR, h]
@[simp] theorem e_DctN : gDctN ρ st = .ok (.ref st.length) (st ++ [.dN []]) := rfl
def disOut (k v : D) (s2 : Sto) : Out D := match keyT k with
  | some _ => .ok (.ref s2.length) (s2 ++ [.dN [(k, v)]])
  | none => .bad
def kDis1 (fv : G D) (ρ : Env) (k : D) (s1 : Sto) : Out D := match fv ρ s1 with
  | .ok v s2 => disOut k v s2
  | _ => .bad
def kDis0 (fv : G D) (ρ : Env) (o : Out D) : Out D := match o with
  | .ok k s1 => kDis1 fv ρ k s1
  | _ => .bad
@[simp] theorem e_DisN : gDisN fk fv ρ st = kDis0 fv ρ (fk ρ st) := by
  unfold gDisN kDis0
  cases fk ρ st with
  | bad => rfl
  | exn x s => rfl
  | ok k s1 =>
    simp only [Out.bind_ok]
    unfold kDis1
    cases fv ρ s1 with
    | bad => rfl
    | exn x s => rfl
    | ok v s2 => rfl
@[simp] theorem e_kDis0 : kDis0 fv ρ (.ok d st) = kDis1 fv ρ d st := rfl
theorem dis1_at (h : fv ρ st = .ok v s1) (hk : keyT d = some k) : kDis1 fv ρ d st = .ok (.ref s1.length) (s1 ++ [.dN [(d, v)]]) := by
  unfold kDis1
  rw [h]
  simp only [disOut, hk]
theorem ixN_at (h : st[n]? = some (.dN kvs) ∨ st[n]? = some (.fN kvs)) (hk : keyT i = some k) : mIxN (.ref n) i st = luN kvs k := by simp only [mIxN, dnR_at h, hk]
theorem inN_at {neg : Bool} (h : st[n]? = some (.dN kvs) ∨ st[n]? = some (.fN kvs)) (hk : keyT i = some k) : mInN neg i (.ref n) st = some (.bl (if neg then !(luN kvs k).isSome else (luN kvs k).isSome)) := by simp only [mInN, dnR_at h, hk]
def getNOut (o i x : D) (s3 : Sto) : Out D := match dNR o s3, keyT i with
  | some (_, kvs), some k => .ok ((luN kvs k).getD x) s3
  | _, _ => .bad
@[simp] def kGN3 (o i x : D) (s3 : Sto) : Out D := getNOut o i x s3
@[simp] def kGN2 (fx : G D) (ρ : Env) (o i : D) (s2 : Sto) : Out D := (fx ρ s2).bind (kGN3 o i)
def kGN1 (fi fx : G D) (ρ : Env) (o : D) (s1 : Sto) : Out D := match dNR o s1 with
  | none => .bad
  | some _ => (fi ρ s1).bind (kGN2 fx ρ o)
@[simp] theorem e_GetN : gGetN fo fi fx ρ st = (fo ρ st).bind (kGN1 fi fx ρ) := rfl
theorem gn1_at (h : st[n]? = some (.dN kvs) ∨ st[n]? = some (.fN kvs)) : kGN1 fi fx ρ (.ref n) st = (fi ρ st).bind (kGN2 fx ρ (.ref n)) := by simp only [kGN1, dnR_at h]
theorem getN_at (h : st[n]? = some (.dN kvs) ∨ st[n]? = some (.fN kvs)) (hk : keyT i = some k) : getNOut (.ref n) i x st = .ok ((luN kvs k).getD x) st := by simp only [getNOut, dnR_at h, hk]
def putNOut (o i v : D) (ρ : Env) (s3 : Sto) : Out Fl := match dNAt o s3, keyT i with
  | some (n, kvs), some k => if kvs.length < 16000000 then .ok (.nx ρ) (s3.set n (.dN (putN kvs i k v))) else .bad
  | _, _ => .bad
@[simp] def kPN3 (ρ : Env) (v o i : D) (s3 : Sto) : Out Fl := putNOut o i v ρ s3
@[simp] def kPN2 (fi : G D) (ρ : Env) (v o : D) (s2 : Sto) : Out Fl := (fi ρ s2).bind (kPN3 ρ v o)
@[simp] def kPN1 (fo fi : G D) (ρ : Env) (v : D) (s1 : Sto) : Out Fl := (fo ρ s1).bind (kPN2 fi ρ v)
@[simp] theorem e_sPutN : sPutN fo fi fv ρ st = (fv ρ st).bind (kPN1 fo fi ρ) := rfl
theorem putN_at (h : st[n]? = some (.dN kvs)) (hk : keyT i = some k) (hl : kvs.length < 16000000) : putNOut (.ref n) i v ρ st = .ok (.nx ρ) (st.set n (.dN (putN kvs i k v))) := by simp only [putNOut, dnA_at h, hk, if_pos hl]
def truNOut (d : D) (s1 : Sto) : Out Bool := match dNR d s1 with
  | some (_, kvs) => .ok (!kvs.isEmpty) s1
  | none => .bad
@[simp] theorem e_TruN : gTruN f ρ st = (f ρ st).bind truNOut := rfl
theorem truN_at (h : st[n]? = some (.dN kvs) ∨ st[n]? = some (.fN kvs)) : truNOut (.ref n) st = .ok (!kvs.isEmpty) st := by simp only [truNOut, dnR_at h]
def itemsOut (d : D) (s1 : Sto) : Out (List D) := match dNR d s1 with
  | some (n, kvs) => if kvs.length ≤ 16000000 then .ok (kvs.map fun q => .tup [q.1, q.2]) (s1.set n (.fN kvs)) else .bad
  | none => .bad
@[simp] theorem e_ItemsN : gItemsN f ρ st = (f ρ st).bind itemsOut := rfl
theorem items_at (h : st[n]? = some (.dN kvs) ∨ st[n]? = some (.fN kvs)) (hl : kvs.length ≤ 16000000) : itemsOut (.ref n) st = .ok (kvs.map fun q => .tup [q.1, q.2]) (st.set n (.fN kvs)) := by simp only [itemsOut, dnR_at h, if_pos hl]
def valsOut (d : D) (s1 : Sto) : Out (List D) := match dNR d s1 with
  | some (n, kvs) => if kvs.length ≤ 16000000 then .ok (kvs.map (·.2)) (s1.set n (.fN kvs)) else .bad
  | none => .bad
@[simp] theorem e_ValsN : gValsN f ρ st = (f ρ st).bind valsOut := rfl
theorem vals_at (h : st[n]? = some (.dN kvs) ∨ st[n]? = some (.fN kvs)) (hl : kvs.length ≤ 16000000) : valsOut (.ref n) st = .ok (kvs.map (·.2)) (st.set n (.fN kvs)) := by simp only [valsOut, dnR_at h, if_pos hl]
@[simp] theorem e_While {t : G Bool} {b : G Fl} {m : Nat} : sWhile m t b ρ st = whileGo t b m ρ st := rfl
def whK2 (t : G Bool) (b : G Fl) (m : Nat) (r : Fl) (s2 : Sto) : Out Fl := match r with
  | .nx ρ' => whileGo t b m ρ' s2
  | .ct ρ' => whileGo t b m ρ' s2
  | .bk ρ' => .ok (.nx ρ') s2
  | .rt d => .ok (.rt d) s2
theorem while_yes {t : G Bool} {b : G Fl} {m : Nat} (h : t ρ st = .ok true s1) : whileGo t b (m + 1) ρ st = (b ρ s1).bind (whK2 t b m) := by
  unfold whileGo
  rw [h]
  rfl
theorem while_no {t : G Bool} {b : G Fl} {m : Nat} (h : t ρ st = .ok false s1) : whileGo t b (m + 1) ρ st = .ok (.nx ρ) s1 := by
  unfold whileGo
  rw [h]
  rfl
theorem srtN_at (h : st[n]? = some (.dN kvs) ∨ st[n]? = some (.fN kvs)) (ho : okSrt (kvs.map (·.1)) = true) (hl : kvs.length ≤ 16000000) : mSortN [.ref n] st = some (.lst (sortD (kvs.map (·.1)))) := by simp only [mSortN, dnR_at h, if_pos (And.intro ho hl)]
theorem srtD_at (ho : okSrt l = true) : mSortD [.lst l] st = some (.lst (sortD l)) := by simp only [mSortD, if_pos ho]
theorem listN_at (h : st[n]? = some (.dN kvs) ∨ st[n]? = some (.fN kvs)) (hl : kvs.length ≤ 16000000) : mListDN [.ref n] st = some (.lst (kvs.map (·.1))) := by simp only [mListDN, dnR_at h, if_pos hl]
theorem sumI_at (ns : List Int) : mSumI [.lst (ns.map D.int)] st = some (.int ns.sum) := by simp only [mSumI, intsOf_map, Option.map_some]
def kixOut (tab : List (Str × D)) (k : D) (s1 : Sto) : Out D := match k with
  | .str z => oout (tab.lookup z) s1
  | _ => .bad
@[simp] theorem e_KIx {tab : List (Str × D)} : gKIx tab f ρ st = (f ρ st).bind (kixOut tab) := rfl
@[simp] theorem e_kix {tab : List (Str × D)} {z : Str} : kixOut tab (.str z) st = oout (tab.lookup z) st := rfl
end
end DL

set_option Elab.async false
set_option linter.all false
set_option maxRecDepth 100000
set_option maxHeartbeats 2000000
/-! # A def called without arguments -/
namespace DL
open PySem PySem.Spec L2
open PyProof.Rows hiding St
section
variable {X : Cx} {W : WX} {pos p : Pos} {x : Str} {fs : G (List D)} {k : Nat} {f : Addr} {fd : FuncData} {ps : List Str} {m : List D → Sto → Out D}
theorem pe_callS0 {CX : CXT} {sp : Sp} {E : L2.St → XK} (F : FnOk X.prog X.w X.K X.mg X.base CX k f fd ps sp) (hr : Room k X.A) (hg : Gl X x) (hm : X.mg x = some (.ref f)) (hk : PySem.W.keepIn X.K (.ref f) = true) (hb : Binds X.K fd ps []) (hx : ∀ σ, PassesAt CX X σ (E σ))
    (hdb : (x == ("__debug__" : Str)) = false := by decide) : PE X (.Call (.Name x p) [] [] pos) (fun σ H Q => sp [] H Q (E σ)) := by
  refine ⟨fun pins s σ H Q I h => ?_⟩
  refine wpAny_Call_Name_kw (ld_glob I hg hm ?_ hdb)
  exact PySem.W.callWith_K0 I.kIn hk (run_fnS (us := []) F hr hb (hx σ) I .nil h)
theorem de_call0 (F : FnD X.prog X.w X.K X.mg X.base k f fd [] m) (tk : Takes X W) (hr : Room k X.A) (hg : Gl X x) (hm : X.mg x = some (.ref f)) (hk : PySem.W.keepIn X.K (.ref f) = true) (hb : Binds X.K fd [] [])
    (hdb : (x == ("__debug__" : Str)) = false := by decide) :
    DE X W (.Call (.Name x p) [] [] pos) (gCall m aNil) := by
  refine PEmono (pe_callS0 (E := fun σ => WE W σ) F hr hg hm hk hb (fun σ => passAt tk σ) hdb) fun σ H Q h => ?_
  obtain ⟨β, ρ, st, hρ, hs, h⟩ := h
  exact ⟨β, [], st, .nil, hs, rfl, h⟩
end
end DL

set_option Elab.async false
set_option linter.all false
set_option maxRecDepth 100000
set_option maxHeartbeats 4000000
/-! # Errors of one's own that keep a field: their __init__ calls super's and stores it -/
namespace DL
open PySem PySem.Spec L2
open PyProof.Rows hiding St
open LamX hiding takes0
open NdefX (NF NScope CellsAt ncx startF inv_startN envF)
/-- f"{x}" of None or a whole number -/
def tFmtN (te : TE) : TE := fun σ H Q => te σ H fun x H1 => (x = .non ∧ Q (.str "None") H1) ∨ ∃ i : Int, x = .int i ∧ i.natAbs.log2 < 1920 ∧ Q (.str (toString i)) H1
theorem pe_fmtN {X : Cx} {e : Expr} {te : TE} {pos : Pos} (he : PE X e te) : PE X (.FormattedValue e (-1) none pos) (tFmtN te) := by
  refine ⟨fun pins s σ H Q I h => wpAny_FormattedValue_plain (thn (he.run pins s σ H _ I h) fun v s1 ⟨x, H1, I1, r1, q⟩ => ?_)⟩
  rcases q with ⟨ex, q⟩ | ⟨i, ex, hz, q⟩
  · subst ex
    obtain rfl : v = Value.none := r1
    exact wpAny_formatField_none ⟨.str "None", H1, I1.tok _, ⟨_, rfl⟩, q⟩
  · subst ex
    obtain ⟨t, rfl⟩ := r1
    exact wpAny_formatField_int hz ⟨.str (toString i), H1, I1.tok _, ⟨_, rfl⟩, q⟩
/-- ValueError's __init__ bound to an exception and called -/
theorem ve_bound {prog : Program} {w : World} {A : Around} {E : Value → Shared → Prop} {K : PySem.W.Frag} {h : Heap} {g : Array GenState} {d : Drawn} {t : Nat} {os : OsState} {C u e t0 : Addr} {rest : List Value} {Q : Value → Shared → Prop} (T : OexC K C) (kin : K.In h)
    (he : h.get? e = some (PySem.HandSPX.excO C t0)) (hu : h.get? u = some (PySem.W.kxs_mw "ValueError.__init__" e)) (hz : rest.length ≤ sizeLine)
    (hq : ∀ h' t1, (∀ b o, b ≠ e → h.get? b = some o → h'.get? b = some o) → h'.get? e = some (PySem.HandSPX.excO C t1) → Q .none ⟨h', g, d, t, os⟩) : wpAny (model prog w) A (call (.ref u) rest) Q E ⟨h, g, d, t, os⟩ := by
  obtain ⟨_, _, _, _, _, _, _, _, _, _, _, _, _, _, _, hC, _⟩ := T.cls
  have FB := F.excBase_ValueError
  refine wpAny_call (codeAny_of_tree (show wpAny _ A.in1 (callAny (.ref u) ⟨rest, []⟩) _ _ _ from ?_))
  simp only [callAny]
  refine wpAny_bind (wpAny_load hu ?_)
  simp only [PySem.W.kxs_mw, show (Value.type "method-wrapper" == Value.type "method" || Value.type "method-wrapper" == Value.type "builtin_function_or_method" || Value.type "method-wrapper" == Value.type "method-wrapper") = true from by decide, if_true]
  refine PySem.W.KFB.if_so (by decide) (wpAny_bind (PySem.W.check_bound_init FB.toExcCallFacts (kin _ _ hC) he rfl (wpAny_bind (wpAny_pure (wpAny_pure ⟨plainId_quiet FB.init.plain _, codeAny_builtin FB.initEntry ?_⟩)))))
  exact PySem.W.exc_init_tree (cls := .ref C) (t0 := t0) (dv := none) (c2 := .none) (c3 := .none) (b4 := .bool false) he hz fun h' k e' _ => hq h' _ k e'
/-- the promise of such an __init__: v is kept under fld -/
def spI (C : Addr) (fld : Str) : Sp := fun vs H Q _ => ∃ (a : Addr) (y : V), vs = [.ref a, y] ∧ H a = some (exo a C none) ∧ (y = .non ∨ ∃ n : Nat, n < 100 ∧ y = .int n) ∧ ∀ dx, H dx = none → dx ≠ a → Q .non (upd (upd H dx (exd dx [(fld, y)])) a (exo a C (some dx)))
theorem small_text : ∀ n : Nat, n < 100 → (toString (n : Int) : Str).length ≤ 10 := by decide +kernel

section
variable {P : Program} {w : World} {K : PySem.W.Frag} {mg : Str → Option Value} {base : Heap} {CX : CXT}
/-- what such an __init__ is made of -/
structure InitX (P : Program) (K : PySem.W.Frag) (mg : Str → Option Value) (C : Addr) (fld q x : Str) (st : Stmt) (fI : Addr) (fd : FuncData) : Prop where
  o : OexC K C
  no : PySem.W.findIn K (.ref C) fld = some none
  iC : PySem.W.findIn K (.ref C) "__init__" = some (some (.ref fI))
  tI : PySem.W.typeIn K (.ref fI) = some (.type "function")
  sub : PySem.W.mroIn K C (.ref C) = some true
  ve : PySem.W.subIn K (.ref C) (.type "ValueError") = some true
  opq : PySem.W.nsIn K cStatics "thirdparty.any" = some none
  al : PySem.W.ks_superIn K C C "__init__" = some (some (.builtin "ValueError.__init__"))
  sup : mg "super" = none
  top : (P.main.scope.names.lookup ("super" : Str)).isSome = false
  ex : ∃ (oc : Value) (od : Option Addr) (kV doc pm : Value) (an : Option Addr) (cda cc : Addr) (ct : Value) (osl : Array (Option Value)) (ccl cl : Value) (cdd cld : Option Addr) (vs : Array Value) (file : Str) (tf : Tok) (ccs csl : Array (Option Value)),
    fd = PySem.W.fnX "__init__" q (defArgs st) (defBody st) (defScope st) [("__class__", cc)] .none kV doc pm an (.ref cda) ct ∧ K.lookup fI = some ⟨oc, od, .func fd, osl⟩ ∧ PySem.W.codeIn K (.ref cda) q = true ∧
    K.lookup cda = some ⟨ccl, cdd, .fields vs, ccs⟩ ∧ vs[2]? = some (.str file tf) ∧ ((P.main.file : Str) == file) = true ∧ K.lookup cc = some ⟨cl, cld, .cell (some (.ref C)), csl⟩
/-- its text -/
structure InitS (fld x : Str) (st : Stmt) : Prop where
  S : NScope ["self", x, "__class__"] ["self", x] ["__class__"] (defScope st)
  par : ∃ ar, ((defArgs st).posonlyargs ++ (defArgs st).args).head? = some ar ∧ ar.arg = "self"
  ks : (defScope st).names.lookup ("super" : Str) = some .globalImplicit
  body : ∃ (m : Str) (j : Nat) (p1 p2 p3 p4 p5 p6 p7 p8 p9 q1 q2 q3 q4 : Pos) (pl : Sem Bool), m.length ≤ 100 ∧ (∀ env : PySem.Env, eval (.Call (.Attribute (.Call (.Name "super" p1) [] [] p2) "__init__" p3) [.JoinedStr [.Constant (.str m) j p4, .FormattedValue (.Name x p5) (-1) none p6] p7] [] p8) env = (do
      let ov ← attributeBase (.Call (.Name "super" p1) [] [] p2) "__init__" env (eval (.Call (.Name "super" p1) [] [] p2) env)
      standAt p3.atName
      let (f, first) ← holding [ov] (getMethod ov "__init__" pl)
      callWith p8 f first (backTo p8 (starEach [.JoinedStr [.Constant (.str m) j p4, .FormattedValue (.Name x p5) (-1) none p6] p7] env)) [])) ∧ (∀ env : PySem.Env, swapsWith (.Call (.Attribute (.Call (.Name "super" p1) [] [] p2) "__init__" p3) [.JoinedStr [.Constant (.str m) j p4, .FormattedValue (.Name x p5) (-1) none p6] p7] [] p8) none p9.line env = pure false) ∧ (∀ env : PySem.Env, swapsWith (.Name x q3) (some (.Attribute (.Name "self" q1) fld q2)) q4.line env = pure false) ∧
    defBody st = [.Expr (.Call (.Attribute (.Call (.Name "super" p1) [] [] p2) "__init__" p3) [.JoinedStr [.Constant (.str m) j p4, .FormattedValue (.Name x p5) (-1) none p6] p7] [] p8) p9, .Assign [.Attribute (.Name "self" q1) fld q2] (.Name x q3) q4]
theorem boot_super : bootBuiltins "super" = some (.type "super") := by kernel_rfl
theorem log_small {n : Nat} (h : n < 100) : (n : Int).natAbs.log2 < 1920 := by
  show n.log2 < 1920
  have : n.log2 ≤ n := Nat.log2_le_self n
  omega
theorem init_ok {C fI : Addr} {fld q x : Str} {st : Stmt} {fd : FuncData} (D : InitX P K mg C fld q x st fI fd) (Sx : InitS fld x st) (hx : x ≠ "self" ∧ x ≠ "__class__" ∧ x ≠ "super") (hxd : (x == ("__debug__" : Str)) = false) (hxc : (x == ("__classdict__" : Str)) = false) : FnOk P w K mg base CX 1 fI fd ["self", x] (spI C fld) := by
  obtain ⟨oc, od, kV, doc, pm, an, cda, cc, ct, osl, ccl, cl, cdd, cld, vs, file, tf, ccs, csl, rfl, lk, hcd, lcd, hvs, hfile, lcc⟩ := D.ex
  obtain ⟨ar, hpar, har⟩ := Sx.par
  obtain ⟨m, j, p1, p2, p3, p4, p5, p6, p7, p8, p9, q1, q2, q3, q4, pl, hm, hev, hsw1, hsw2, hbody⟩ := Sx.body
  have S := Sx.S
  refine ⟨fun vs H Q E h => by obtain ⟨a, y, rfl, _⟩ := h; rfl, fun A outer s H args us vals Q E hr e0 hb r hsp => ?_⟩
  obtain ⟨a, y, rfl, ha, hy, hq⟩ := hsp
  have KX : K.In s.heap := e0.mod.kin.keeps fun b o e => (e0.bs b o e).1
  have lim : s.heap.NoLimit := e0.mod.nolimit.keeps fun b o e => (e0.bs b o e).1
  have C0 : CellsAt [("__class__", cc)] ["__class__"] [none] s.heap H := by
    have hc1 : ∀ y c, List.lookup y [(("__class__" : Str), cc)] = some c → y = "__class__" ∧ c = cc := fun y c e => by
      rw [List.lookup_cons] at e
      split at e
      · rename_i z
        cases e
        exact ⟨eq_of_beq z, rfl⟩
      · cases e
    refine ⟨rfl, fun y c e => ?_, fun y z c e1 e2 => ?_, fun i y e => ?_⟩
    · obtain ⟨_, rfl⟩ := hc1 y c e
      exact ⟨(e0.bs _ _ (e0.mod.kin _ _ lcc)).2, _, _, KX _ _ lcc, rfl⟩
    · rw [(hc1 y c e1).1, (hc1 z c e2).1]
    · refine ⟨cc, ?_, fun v e3 => ?_⟩
      · match i, e with
        | 0, e =>
          cases e
          rfl
      · match i, e3 with
        | 0, e3 => cases e3
  refine ks_codeAny_call_defAt hr.depth (KX _ _ lk) rfl lim (PySem.W.codeRec_of KX hcd) rfl hb S.nocell (fun ⟨n, _⟩ hy => S.par n (List.of_mem_zip hy).1) (fun h₁ hns kp => ?_) S.co S.gen S.kind
  have I : Inv (ncx CX P w K mg base ["self", x, "__class__"] ⟨"__init__", q, defArgs st, defBody st, defScope st, [("__class__", cc)], cda⟩ fI A outer s H E) [] (startF ["self", x, "__class__"] [.ref a, y] [none]) H { s with heap := h₁, toks := s.toks + ((["self", x] : List Str).zip us).length } := inv_startN S hr.hd e0 rfl r C0 hns kp
  generalize htk : s.toks + ((["self", x] : List Str).zip us).length = tk at I ⊢
  have VS : Vis (defScope st) "self" := .inl (S.par _ (by simp))
  have VX : Vis (defScope st) x := .inl (S.par _ (by simp))
  obtain ⟨nmC, qC, NC, bsC, bmC, snC, subC, abC, colC, ddC, k0C, k1C, k2C, k3C, k5C, hC, hbm⟩ := D.o.cls
  obtain ⟨cd, hcl, hcd2⟩ : ∃ cd : ClassData, PySem.W.clsIn K C = some cd ∧ (excClassObj nmC qC C NC bsC bmC true snC subC abC colC ddC k0C k1C k2C k3C k5C "ValueError.__new__").data = .cls cd := ⟨_, by unfold PySem.W.clsIn; rw [hC] <;> rfl, rfl⟩
  have hal : PySem.W.alongIn K "__init__" ((cd.mro.dropWhile (· != .ref C)).drop 1) = some (some (.builtin "ValueError.__init__")) := by
    have z := D.al
    unfold PySem.W.ks_superIn at z
    rw [hcl] at z
    exact z
  have eB : ∀ env, execs (defBody st) env = execs [.Expr (.Call (.Attribute (.Call (.Name "super" p1) [] [] p2) "__init__" p3) [.JoinedStr [.Constant (.str m) j p4, .FormattedValue (.Name x p5) (-1) none p6] p7] [] p8) p9, .Assign [.Attribute (.Name "self" q1) fld q2] (.Name x q3) q4] env := fun env => by rw [hbody]
  rw [eB]
  refine ks_wpAt_execs_cons (ks_wpAt_Expr_any (ks_wpAt_MethodCall (pl := pl) ?_ (hev _)) I.quiet (hsw1 _))
  refine ks_wpAt_super_base Sx.ks (S.frk _ (by simp)) rfl rfl (I.kIn _ _ lk) rfl hpar rfl (I.kIn _ _ lcd) rfl hvs hfile D.top ?_
  obtain ⟨mb, b1, b2⟩ := I.mod.blt
  refine PySem.W.ks_loadName_global S.kind Sx.ks (Calls.loadGlobal_builtin (I.mod.glob.keeps I.bk) D.sup (b1.keeps I.bk) ((b2 _ (by decide)).trans boot_super) ⟨rfl, ?_⟩)
  refine wpAny_loadName_free S.kind (S.frk _ (by simp)) rfl ⟨_, I.kIn _ _ lcc, rfl⟩ ?_
  obtain ⟨mL, hnL, hlL⟩ := I.loc
  obtain ⟨u0, ru, hk0⟩ := hlL 0 "self" (.ref a) rfl rfl VS
  have hk0 : mL "self" = some u0 := by
    rcases hk0 with ⟨_, z⟩ | ⟨z, _⟩
    · exact z
    · exfalso
      have z1 : (defScope st).names.lookup ("self" : Str) = some .local := S.par _ (by simp)
      rcases z with z | z
      · rw [show (ncx CX P w K mg base ["self", x, "__class__"] ⟨"__init__", q, defArgs st, defBody st, defScope st, [("__class__", cc)], cda⟩ fI A outer s H E).env.kindOf "self" = (defScope st).names.lookup ("self" : Str) from rfl, z1] at z
        cases z
      · rw [show (ncx CX P w K mg base ["self", x, "__class__"] ⟨"__init__", q, defArgs st, defBody st, defScope st, [("__class__", cc)], cda⟩ fI A outer s H E).env.kindOf "self" = (defScope st).names.lookup ("self" : Str) from rfl, z1] at z
        cases z
  obtain rfl : u0 = Value.ref a := ru
  rw [har]
  refine wpAny_loadName_local S.kind (S.par _ (by simp)) hnL hk0 ?_
  refine ks_wpAny_isType_cls (I.kIn _ _ hC) hcd2 ⟨rfl, ?_⟩
  obtain ⟨t1, ho⟩ := exo_at I.hok ha
  refine ks_wpAny_call_super (I.kIn _ _ hC) hcd2 ho rfl (fun c e => by cases e) (PySem.W.looks_mroIn I.kIn D.sub) fun h2 e2 k2 => ?_
  have kin2 : K.In h2 := I.kIn.keeps k2
  have hx2 := k2 _ _ ho
  have I2at : PySem.W.InstAt h2 a _ C none := ⟨hx2, rfl, rfl, trivial⟩
  refine PySem.W.kxs_getMethod PySem.W.kxs_ValueError e2 (PySem.W.looks_opaque kin2 D.opq) (l₀ := cd.mro) (fun A Q E s k q => wpAny_bind ((PySem.W.looks_clsIn kin2 hcl) A _ E s k (wpAny_pure q))) rfl kin2 hal (I2at.type.andThen (PySem.W.looks_subIn kin2 D.ve)) (PySem.W.ks_ne kin2 I2at hcl) rfl ?_
  have hst : starEach [.JoinedStr [.Constant (.str m) j p4, .FormattedValue (.Name x p5) (-1) none p6] p7] (envF ⟨"__init__", q, defArgs st, defBody st, defScope st, [("__class__", cc)], cda⟩ fI s.heap.objs.size) = [(false, eval (.JoinedStr [.Constant (.str m) j p4, .FormattedValue (.Name x p5) (-1) none p6] p7) (envF ⟨"__init__", q, defArgs st, defBody st, defScope st, [("__class__", cc)], cda⟩ fI s.heap.objs.size))] := rfl
  refine PySem.W.kxs_callWith (i := "ValueError.__init__") (x := a) rfl (Calls.evalArgs_plain ?_)
  have hsz : h₁.objs.size < h2.objs.size := Heap.lt_size e2
  have I3 : Inv (ncx CX P w K mg base ["self", x, "__class__"] ⟨"__init__", q, defArgs st, defBody st, defScope st, [("__class__", cc)], cda⟩ fI A outer s H E) [(h2.objs.size, PySem.W.kxs_mw "ValueError.__init__" a)] (startF ["self", x, "__class__"] [.ref a, y] [none]) H ⟨h2.push (PySem.W.kxs_mw "ValueError.__init__" a), s.gens, s.drawn, tk + 1, s.os⟩ := by
    have I3' := I.kept (t' := tk + 1) (h' := h2.push (PySem.W.kxs_mw "ValueError.__init__" a)) fun b o e => Heap.get?_push_of_some _ (k2 b o e)
    refine I3'.pins_of fun p hp => ?_
    obtain rfl := List.mem_singleton.mp hp
    have l1 := I.lt
    exact ⟨Heap.get?_push_at rfl rfl, I.hok.fresh (Nat.le_of_lt hsz), fun z => absurd (show h2.objs.size = _ from z) (Nat.ne_of_gt (Nat.lt_trans l1 hsz)), I.nofs (Nat.le_of_lt hsz), fun v e => by cases e⟩
  have ha1 := pa_cons (X := ncx CX P w K mg base ["self", x, "__class__"] ⟨"__init__", q, defArgs st, defBody st, defScope st, [("__class__", cc)], cda⟩ fI A outer s H E) (pe_joined (pos := p7) (.cons (pe_str (x := m) (j := j) (pos := p4)) (.cons (pe_fmtN (pos := p6) (pe_var (i := 1) (x := x) (pos := p5) rfl VX hxd hxc)) .nil))) pa_nil
  refine thn (ha1.run p8 _ _ _ H (fun vs H1 => H1 = H ∧ ∃ out : Str, vs = [.str out]) I3 ?_) fun us4 s4 h4 => ?_
  · refine ⟨m, rfl, ?_, ?_⟩
    · have e0 : (Str.empty ++ m).length ≤ 100 := by
        rw [PySem.Str.length_append]
        exact (Nat.zero_add _).symm ▸ hm
      rw [sizeLine_eq]
      omega
    · refine ⟨y, rfl, ?_⟩
      have e0 : (Str.empty ++ m).length ≤ 100 := by
        rw [PySem.Str.length_append]
        exact (Nat.zero_add _).symm ▸ hm
      rcases hy with rfl | ⟨n, hn, rfl⟩
      · refine .inl ⟨rfl, "None", rfl, ?_, rfl, _, rfl⟩
        rw [sizeLine_eq]
        rw [PySem.Str.length_append]
        have : ("None" : Str).length = 4 := by decide
        omega
      · refine .inr ⟨n, rfl, log_small hn, _, rfl, ?_, rfl, _, rfl⟩
        rw [sizeLine_eq]
        have h10 := small_text n hn
        rw [PySem.Str.length_append]
        omega
  · obtain ⟨vs4, H4, I4, r4, rfl, out, rfl⟩ := h4
    have pu := (I4.pin (h2.objs.size, PySem.W.kxs_mw "ValueError.__init__" a) (by simp)).1
    refine ⟨pu, ?_⟩
    obtain ⟨t2, ho2⟩ := exo_at I4.hok ha
    obtain ⟨hp4, g4, d4, t4, os4⟩ := s4
    have hl4 : us4.length ≤ sizeLine := by
      rw [← Paired.length r4, sizeLine_eq]
      exact Nat.le_trans (Nat.le_of_eq (rfl : _ = 1)) (by decide)
    refine ve_bound D.o I4.kIn ho2 pu hl4 fun h5 t5 k5 e5 => ?_
    have I5 : Inv (ncx CX P w K mg base ["self", x, "__class__"] ⟨"__init__", q, defArgs st, defBody st, defScope st, [("__class__", cc)], cda⟩ fI A outer s H4 E) [] (startF ["self", x, "__class__"] [.ref a, y] [none]) H4 ⟨h5, g4, d4, t4, os4⟩ := by
      have J := I4.write (t' := t4) (x := a) (e := a) (o := exo a C none) (by rw [ha]; exact True.intro) (.inl rfl) k5 ⟨_, e5⟩ (exo_ok e5)
      have eu : upd H4 a (exo a C none) = H4 := by
        funext b
        by_cases hb : b = a
        · rw [hb, upd_same, ha]
        · rw [upd_ne hb]
      rw [eu] at J
      exact J.pins_of fun p hp => absurd hp (by simp)
    refine wpAt_of_wpAny (wpAny_mono ((pss_one (ps_ost (pos := q4) (p' := q2) (pe_var (i := 0) (pos := q1) rfl VS) (pe_var (i := 1) (pos := q3) rfl VX hxd hxc) (hsw2 _))).run [] _ _ H4 { nx := fun _ H' => Q .non H', rt := Q } I5 ⟨y, rfl, .ref a, rfl, a, C, rfl, D.o, D.no, .inl ⟨ha, fun dx n ne => hq dx n ne⟩⟩) (fun fl s' hs => ?_) fun e s' he => he)
    cases fl with
    | ret u =>
      obtain ⟨v, σ', H', J, rv, z⟩ := hs
      exact ⟨v, H', J.os, J.bare, J.base, J.hok, rv, z⟩
    | next =>
      obtain ⟨σ', H', J, z⟩ := hs
      exact ⟨V.non, H', J.os, J.bare, J.base, J.hok, rfl, z⟩
    | brk =>
      obtain ⟨_, _, _, z⟩ := hs
      exact False.elim z
    | cont =>
      obtain ⟨_, _, _, z⟩ := hs
      exact False.elim z
end
end DL

set_option Elab.async false
set_option linter.all false
set_option maxRecDepth 100000
set_option maxHeartbeats 4000000
/-! # raise X(e), X an own error that keeps e -/
namespace DL
open PySem PySem.Spec L2
open PyProof.Rows hiding St
open LamX hiding takes0
open NdefX (NF NScope CellsAt ncx startF inv_startN envF)
/-- what such an error is raised with -/
def raisedF (c fld : Str) (s1 : Sto) : List D → Out Fl
  | [.non] => .exn ⟨c, some (fld, .non)⟩ s1
  | [.int i] => if 0 ≤ i ∧ i < 100 then .exn ⟨c, some (fld, .int i)⟩ s1 else .bad
  | _ => .bad
def sRaiseF (c fld : Str) (fa : G (List D)) : G Fl := fun ρ st => (fa ρ st).bind fun ds s1 => raisedF c fld s1 ds
/-- an error's class of the text that keeps a field; B: the one that is caught -/
structure XF (P : Program) (w : World) (K : PySem.W.Frag) (mg : Str → Option Value) (n fld : Str) (B a : Addr) : Prop where
  g : mg n = some (.ref a)
  ok : ∃ (q x : Str) (st : Stmt) (fI : Addr) (fd : FuncData), InitX P K mg a fld q x st fI fd ∧ Binds K fd ["self", x] [] ∧ ∀ base : Heap, FnOk P w K mg base C8.CX0 1 fI fd ["self", x] (spI a fld)
  up : PySem.W.exmOne K (.ref a) (.ref B) = some true
  is : ExcC K a
  fl : XfC K a
  no : PySem.W.findIn K (.ref a) fld = some none
theorem same_made {H : Hp} {a dx : Addr} {o1 o2 o3 o4 : HO} (ha : H a = none) (hd : H dx = none) : Same H (upd (del (upd (upd (upd H a o1) dx o2) a o3) a) dx o4) := fun b o e => by
  have h1 : b ≠ a := ne_of_none e ha
  have h2 : b ≠ dx := ne_of_none e hd
  rw [upd_ne h2, del_ne h1, upd_ne h1, upd_ne h2, upd_ne h1]
  exact e
section
variable {X : Cx} {W : WX} {B a : Addr}
theorem ds_raiseF {n fld : Str} {e : Expr} {fa : G (List D)} {p pos pos' : Pos} (hc : X.calm = true) (tk : Takes X W) (C : XF X.prog X.w X.K X.mg n fld B a) (hg : Gl X n) (hr : Room 2 X.A) (ha : DA X W [e] fa) (hdb : (n == ("__debug__" : Str)) = false := by decide)
    (he : starEach (e :: []) X.env = (false, eval e X.env) :: starEach [] X.env := by rfl) (hpl : (backTo pos (starEach [] X.env)).any (·.1) = false := by rfl) : DS X W (.Raise (some (.Call (.Name n p) [e] [] pos)) none pos') (sRaiseF n fld fa) := by
  obtain ⟨q, x, st, fI, fd, DX, hb, hF⟩ := C.ok
  refine PSmono (ps_raise hc tk (pmk_oex (CX := C8.CX0) (dvs := []) (ds := []) DX.o DX.iC DX.tI (hF X.base) hr hb .nil C8.pass0 hg C.g ha hdb he hpl)) fun D' σ H h => ?_
  obtain ⟨β, ρ, st0, hρ, hs, h⟩ := h
  have h := Out.sat_bind h
  refine ⟨β, ρ, st0, hρ, hs, h.mono (fun ds s1 h1 => ?_) fun y s1 h1 => ?_⟩
  · intro vs β1 H1 e1 S1 r1
    have key : ∀ (v : V) (d : D), vs = [v] → (v = .non ∨ ∃ n : Nat, n < 100 ∧ v = .int n) → Rep (zOf X) β1 H1 v d → PostXS (zOf X) X.mg W β H ⟨n, some (fld, d)⟩ s1 → vs.length ≤ 1000 ∧ ∀ a_1, H1 a_1 = none → spI a fld (.ref a_1 :: (vs ++ [])) (upd H1 a_1 (exo a_1 a none))
        (fun v H2 => v = .non ∧ ∃ (d : Addr) (fs : List (Str × V)), H2 a_1 = some (exo a_1 a (some d)) ∧ H2 d = some (exd d fs) ∧ H1 d = none ∧ W (.ref a) (some d) σ (upd (del H2 a_1) d (.xd fs))) (fun _ _ _ => False) := fun v d ev hv rv hP => by
      subst ev
      refine ⟨by simp, fun b hb0 => ⟨b, v, rfl, upd_same, hv, fun dx hdx hne => ⟨rfl, dx, [(fld, v)], upd_same, ?_, ?_, ?_⟩⟩⟩
      · rw [upd_ne hne, upd_same]
      · rw [upd_ne hne] at hdx
        exact hdx
      · rw [upd_ne hne] at hdx
        have sm : Same H1 (upd (del (upd (upd (upd H1 b (exo b a none)) dx (exd dx [(fld, v)])) b (exo b a (some dx))) b) dx (.xd [(fld, v)])) := same_made hb0 hdx
        exact hP (.ref a) (some dx) σ β1 _ (e1.trans (Ext.same sm)) (S1.same sm) ⟨C.g, dx, v, rfl, upd_same, Rep.ext (Ext.same sm) _ _ rv⟩
    match ds, h1, r1 with
    | [.non], h1, r1 =>
      obtain ⟨v, rfl, rv⟩ := r1.one
      cases rv
      exact key _ _ rfl (.inl rfl) .non h1
    | [.int i], h1, r1 =>
      obtain ⟨v, rfl, rv⟩ := r1.one
      cases rv
      have h1 : Out.sat (if 0 ≤ i ∧ i < 100 then Out.exn ⟨n, some (fld, .int i)⟩ s1 else .bad) (PostF (zOf X) D' β H) (PostXS (zOf X) X.mg W β H) := h1
      split at h1
      · rename_i hi
        refine key _ _ rfl (.inr ⟨i.toNat, by omega, ?_⟩) (.int i) h1
        rw [Int.toNat_of_nonneg hi.1]
      · exact (show False from h1).elim
    | [], h1, _ => exact (show False from h1).elim
    | d1 :: d2 :: l, h1, _ => cases d1 <;> exact (show False from h1).elim
    | [.bl _], h1, _ => exact (show False from h1).elim
    | [.str _], h1, _ => exact (show False from h1).elim
    | [.tup _], h1, _ => exact (show False from h1).elim
    | [.lst _], h1, _ => exact (show False from h1).elim
    | [.ro _], h1, _ => exact (show False from h1).elim
    | [.ref _], h1, _ => exact (show False from h1).elim
    | [.raw _], h1, _ => exact (show False from h1).elim
    | [.clo _ _], h1, _ => exact (show False from h1).elim
  · exact fun cls dd β' H' e' S' xr => h1 cls dd σ β' H' e' S' xr
end
end DL

set_option Elab.async false
set_option linter.all false
set_option maxRecDepth 100000
set_option maxHeartbeats 4000000
/-! # A lambda handed to a def that tells what it raises, with the error's field -/
namespace DL
open PySem PySem.Spec L2
open PyProof.Rows hiding St
open LamX hiding takes0
/-- what the clause gives back, told of the heap -/
def SQ (Y : Cx) (i : Nat) (a : Addr) (e : Expr) (R : Hp → VK → Prop) : Prop := PE Y e (fun σ H Q => σ[i]? = some (some (.ref a)) ∧ R H Q)
section
variable {Y : Cx} {i : Nat} {a : Addr} {t u w e : Expr} {v : V} {pos : Pos} {b : Bool} {R : Hp → VK → Prop}
theorem sq_of (h : SE Y i a e v) : SQ Y i a e (fun H Q => Q v H) := h
theorem sq_imp {R' : Hp → VK → Prop} (h : SQ Y i a e R) (i' : ∀ H Q, R' H Q → R H Q) : SQ Y i a e R' := PEmono h fun _ _ _ q => ⟨q.1, i' _ _ q.2⟩
theorem sq_if (ht : SE Y i a t (.bl b)) (hu : b = true → SQ Y i a u R) (hw : b = false → SQ Y i a w R) (he : ∀ whole, isTrue t Y.env whole = (do let v ← whole; standAt t.pos; holding [v] (truthy v)) := by exact fun _ => rfl) : SQ Y i a (.IfExp t u w pos) R := by
  refine ⟨fun pins s σ H Q I h => wpAny_IfExp (thn ((pt_truth ht he).run pins s σ H (fun k H' => k = b ∧ H' = H) I ⟨h.1, b, rfl, rfl, rfl⟩) fun d s1 ⟨H1, I1, q1⟩ => ?_)⟩
  obtain ⟨rfl, rfl⟩ := q1
  cases d with
  | true => exact (hu rfl).run pins s1 σ _ Q I1 h
  | false => exact (hw rfl).run pins s1 σ _ Q I1 h
end
/-- e.f -/
theorem sq_fld {X : Cx} {i : Nat} {a C : Addr} {oe : Obj} {cls : Value} {d : Option Addr} {pn : List (Addr × Obj)} {e n : Str} {p pos : Pos} (T : XfC X.K C) (hno : PySem.W.findIn X.K (.ref C) n = some none) (hz : Zc cls d oe) (hf : ∃ vs, oe.data = .fields vs) (hc : cls = .ref C)
    (hN : X.N[i]? = some e) (hv : Vis X.env.scope e) (hd : (e == ("__debug__" : Str)) = false) (hd2 : (e == ("__classdict__" : Str)) = false) (hb : attributeBase (.Name e p) n X.env (eval (.Name e p) X.env) = eval (.Name e p) X.env := by rfl) :
    SQ (X.suite a ((a, oe) :: pn)) i a (.Attribute (.Name e p) n pos) (fun H Q => ∃ (dd : Addr) (fs : List (Str × V)) (v : V), d = some dd ∧ H dd = some (.xd fs) ∧ fs.lookup n = some v ∧ Q v H) :=
  PEmono (pe_xf T hno hz hf (pe_var (X := X.suite a ((a, oe) :: pn)) (i := i) hN hv hd hd2) hb) fun _ _ _ h => ⟨_, h.1, rfl, hc, h.2⟩
/-- the error's dict is there -/
def DictP (d : Option Addr) (H : Hp) : Prop := ∀ dd, d = some dd → ∃ fs, H dd = some (.xd fs)
def rIsF (K : PySem.W.Frag) (D a : Addr) (d : Option Addr) : List V → Hp → VK → Prop := fun xs H Q => DictP d H ∧ ∃ (c : V) (cv : Value) (b : Bool), xs = [.ref a, c] ∧ (∀ u, RelV c u → u = cv) ∧ PySem.W.kitOne K (.ref D) cv = some b ∧ Q (.bl b) H
theorem call_isF {X : Cx} {a D : Addr} {d : Option Addr} {oe : Obj} {pn : List (Addr × Obj)} (C : ExcC X.K D) (hz : Zc (.ref D) d oe) (hf : ∃ vs, oe.data = .fields vs) : CallR (X.suite a ((a, oe) :: pn)) (.builtin "isinstance") (rIsF X.K D a d) := by
  intro pins s σ H xs us Q I r ⟨hd, c, cv, b, ex, hcv, e, q⟩
  subst ex
  match us, r with
  | [u0, u1], .cons rx (.cons rt .nil) =>
    cases rx
    obtain rfl := hcv _ rt
    obtain ⟨hget, _⟩ := I.pin (a, oe) (List.mem_append.mpr (.inl List.mem_cons_self))
    obtain ⟨vs, hv⟩ := hf
    obtain ⟨od, hod⟩ : ∃ od : Option Obj, PySem.W.InstAt s.heap a oe D od := by
      have nc : PySem.W.notCls oe = true := by
        unfold PySem.W.notCls
        rw [hv] <;> rfl
      cases d with
      | none => exact ⟨none, hget, hz.1, nc, by rw [hz.2]; exact trivial⟩
      | some dd =>
        obtain ⟨fs, hfs⟩ := hd dd rfl
        obtain ⟨mA, ⟨o, es, ep, ho, _⟩, _⟩ := (show ObjOk X.prog X.w H s.heap dd (.xd fs) from I.hok dd _ hfs)
        exact ⟨some o, hget, hz.1, nc, by rw [hz.2]; exact ho⟩
    have hcl : (PySem.W.clsIn X.K D).isSome = true := by
      obtain ⟨cd, hc, _⟩ := PySem.W.any_some C.hd
      rw [hc]
      rfl
    exact PySem.W.kia_one (PySem.W.kitx_exc hcl C.hg C.hk C.hs C.ha C.hn C.ht C.hm) I.kIn hod e (fun z => nomatch z) fun tk => ⟨.bl b, H, I.kept (t' := tk) fun _ _ z => z, rfl, q⟩
theorem sq_is {Y : Cx} {i : Nat} {a D : Addr} {d : Option Addr} {b : Bool} {pos p p1 p2 : Pos} {e C : Str} {c : Addr} (hc : CallR Y (.builtin "isinstance") (rIsF Y.K D a d)) (hN : Y.N[i]? = some e) (hv : Vis Y.env.scope e) (hg : Gl Y "isinstance") (hm : Y.mg "isinstance" = none) (hC : Gl Y C) (gC : Y.mg C = some (.ref c)) (hk : PySem.W.kitOne Y.K (.ref D) (.ref c) = some b)
    (hd : (e == ("__debug__" : Str)) = false := by decide) (hd2 : (e == ("__classdict__" : Str)) = false := by decide) (hd3 : (C == ("__debug__" : Str)) = false := by decide) :
    SQ Y i a (.Call (.Name "isinstance" p) [.Name e p1, .Name C p2] [] pos) (fun H Q => DictP d H ∧ Q (.bl b) H) :=
  PEmono (pe_callB hc hg hm (by decide +kernel) (pa_cons (pe_var (i := i) hN hv hd hd2) (pa_cons (pe_glob hC gC (v := .ref c) rfl hd3) pa_nil))) fun σ H Q h => ⟨.ref a, h.1, h.2.1, .ref c, .ref c, b, rfl, fun u r => r, hk, h.2.2⟩
theorem sq_ifP {Y : Cx} {i : Nat} {a : Addr} {t u w : Expr} {pos : Pos} {b : Bool} {R : Hp → VK → Prop} {Pz : Hp → Prop} (ht : SQ Y i a t (fun H Q => Pz H ∧ Q (.bl b) H)) (hu : b = true → SQ Y i a u R) (hw : b = false → SQ Y i a w R) (he : ∀ whole, isTrue t Y.env whole = (do let v ← whole; standAt t.pos; holding [v] (truthy v)) := by exact fun _ => rfl) : SQ Y i a (.IfExp t u w pos) (fun H Q => Pz H ∧ R H Q) := by
  refine ⟨fun pins s σ H Q I h => wpAny_IfExp (thn ((pt_truth ht he).run pins s σ H (fun k H' => k = b ∧ H' = H) I ⟨h.1, h.2.1, b, rfl, rfl, rfl⟩) fun d s1 ⟨H1, I1, q1⟩ => ?_)⟩
  obtain ⟨rfl, rfl⟩ := q1
  cases d with
  | true => exact (hu rfl).run pins s1 σ _ Q I1 ⟨h.1, h.2.2⟩
  | false => exact (hw rfl).run pins s1 σ _ Q I1 ⟨h.1, h.2.2⟩
theorem pss_at {X : Cx} {ss : List Stmt} {t : TS} {pins : List (Addr × Obj)} {s : Shared} {σ : L2.St} {H : Hp} {D : Ends} (I : Inv X pins σ H s) (h : PSs X ss t) (q : t D σ H) : wpAny (model X.prog X.w) X.A (execs ss X.env) (SP X pins D) X.xe s := h.run _ _ _ _ _ I q
/-- what it makes of the lambda's reading: R: what the clause does with an error's class, its dict -/
def TTwF (K : PySem.W.Frag) (CS : Addr) (R : Addr → Option Addr → Hp → VK → Prop) (z : V) : (XK → Hp → VK → Prop) → Hp → VK → Prop := fun tl H Q =>
  tl (fun cls d H' => ∃ D, cls = .ref D ∧ PySem.W.exmOne K cls (.ref CS) = some true ∧ R D d H' Q) H fun _ H' => Q z H'
section
variable {X : Cx}
theorem wrong_givesF {Ng : List Str} {x a e n q : Str} {sg : Scope} {g CS : Addr} {cdg : Value} {p1 p2 p3 p4 p7 p8 p10 : Pos} {h0b : Stmt} {hb : List Stmt} {out : Expr} {z : V} {R : Addr → Option Addr → Hp → VK → Prop}
    (hge : sg.names.lookup e = some .globalImplicit) (hme : X.mg e = some (.ref CS)) (hde : (e == ("__debug__" : Str)) = false) (h0 : ∀ f : Addr, (L2.start Ng [V.ref f])[0]? = some (some (V.ref f)))
    (hN : Ng.Nodup) (hi : Ng[1]? = some n) (hln : ∀ (A : Around) (s : Shared) (H : Hp), (cxOf C8.CX0 X.prog X.w X.K X.mg X.base Ng x sg g cdg A X.stack s H C8.E0).nox.env.kindOf n = some .local) (hout : ∀ (Y : Cx), PE Y out (tC z))
    (hret : ∀ (A : Around) (s : Shared) (H : Hp) (b D : Addr) (d : Option Addr) (oe : Obj) (pn : List (Addr × Obj)), Zc (.ref D) d oe → (∃ vs, oe.data = .fields vs) →
      PSs ((cxOf C8.CX0 X.prog X.w X.K X.mg X.base Ng x sg g cdg A X.stack s H C8.E0).nox.suite b ((b, oe) :: pn)) (h0b :: hb) (fun D' σ H => σ[1]? = some (some (.ref b)) ∧ R D d H D'.rt))
    (hsw : ∀ (env : PySem.Env), swapsWith (.Call (.Name a p1) [] [] p2) none p3.line env = pure false := by intro _; rfl) :
    GivesTo X Ng x sg g cdg [.Try [.Expr (.Call (.Name a p1) [] [] p2) p3] [.ExceptHandler (some (.Name e p4)) (some n) (h0b :: hb) p7] [] [] p8, .Return (some out) p10] a q (TTwF X.K CS R z) := by
  intro f c' s H Q tl act hc h
  have hgl : Gl (cxOf C8.CX0 X.prog X.w X.K X.mg X.base Ng x sg g cdg X.A X.stack s H C8.E0).nox e := hge
  let ts : Addr → Value → Option Addr → TS := fun b cls d D' σ H => ∃ D, cls = .ref D ∧ (∃ σ' : L2.St, σ = List.set σ' 1 (some (.ref b))) ∧ R D d H D'.rt
  refine ⟨_, pss_cons (ps_try_as (X := (cxOf C8.CX0 X.prog X.w X.K X.mg X.base Ng x sg g cdg X.A X.stack s H C8.E0).nox) (c := .ref CS) (i := 1) (ts := ts)
      (tb := fun W D σ H => ∃ Ech : XK, (∀ cls d σ' H', Ech cls d H' → W cls d σ' H') ∧ σ[0]? = some (some (.ref f)) ∧ H c' = some (CodeO c' q) ∧ tl Ech H (fun _ H' => D.nx σ H'))
      rfl rfl hN hi (hln X.A s H) ⟨hgl, hde, .inl hme⟩ takes0 (fun W pn xe tk _ => ?_) (fun b oe cls d pn hz hd => ?_)) (pss_one (ps_ret (hout _))), ?_⟩
  · refine ⟨fun pins s' σ H' D I ⟨Ech, hW, h1, h2, h3⟩ => ?_⟩
    exact (pss_one (ps_expr (pos := p3) (act W pn xe Ech p1 p2 tk hW) (hsw _))).run pins s' σ H' D I ⟨h1, h2, h3⟩
  · refine ⟨fun pins s' σ H' D' I ⟨D, e1, ⟨σ', hσ⟩, hR⟩ => ?_⟩
    subst e1
    have hl : σ.length = Ng.length := I.len
    have h1 : σ[1]? = some (some (.ref b)) := by
      rw [hσ, List.length_set] at hl
      rw [hσ, List.getElem?_set_self (by rw [hl]; exact (List.getElem?_eq_some_iff.mp hi).1)]
    exact (hret X.A s H b D d oe pn hz hd).run pins s' σ H' D' I ⟨h1, hR⟩
  · exact ⟨fun cls d H' => ∃ D, cls = .ref D ∧ PySem.W.exmOne X.K cls (.ref CS) = some true ∧ R D d H' Q, fun cls d σ' H' ⟨D, e1, e4, e5⟩ => ⟨true, e4, fun _ b _ => ⟨D, e1, ⟨σ', rfl⟩, e5⟩, fun hb => by cases hb⟩, h0 f, hc, h⟩
end
/-- work handed to the def that tells what it raises; tw: what is told of an error, dz: if nothing is raised -/
def gWrongF (q : Str) (tw : Exn → Option D) (dz : D) (gb : G D) : G D := fun ρ (st : Sto) => match st[0]? with
  | some (SO.tab d' q') => if d' = "law" ∧ q' = q then (match gb ρ st with
    | .ok _ s1 => .ok dz s1
    | .exn x s1 => (match tw x with
      | some d => .ok d s1
      | none => .bad)
    | .bad => .bad) else .bad
  | _ => .bad
section
variable {X : Cx} {W : WX}
theorem de_wrongF {x a : Str} {stg : Stmt} {g : Addr} {fdg : FuncData} {Ng : List Str} {CS : Addr} {R : Addr → Option Addr → Hp → VK → Prop} {z : V} {c P : Addr} {k : Nat} {params : Arguments} {body : Expr} {scope : Scope} {p lpos pos : Pos} {tw : Exn → Option D} {dz : D} {gb : G D}
    (F : Fun X.K x x stg g fdg) (hb : L2.Binds X.K fdg [a] []) (Sg : FnScope Ng [a] (defScope stg)) (hNg : Ng[0]? = some a) (hva : Vis (defScope stg) a) (hg : Gl X x) (hm : X.mg x = some (.ref g))
    (hG : ∀ cdv, GivesTo X Ng x (defScope stg) g cdv (defBody stg) a (X.env.qual ++ "<lambda>") (TTwF X.K CS R z))
    (TB : TabB X.base X.mg c P) (hcode : X.env.code = .ref c) (hP : tabAddr X.K "law" = P) (hr : Room (k + 2) X.A) (L : LamS X.env.scope scope) (hdef : defaultsOf params X.env = ([], []))
    (hbind : ∀ (q : Str) (cl : List (Str × Addr)) (pm cv ctv : Value), bindArgs (PySem.W.kla_fn "<lambda>" q params body scope cl pm cv ctv) ⟨[], []⟩ = pure [])
    (ht : ∀ (y : Exn) (d : D) (β : Bx) (H : Hp) (cls : Value) (dd : Option Addr) (Q : VK), tw y = some d → XRep (zOf X) X.mg β H y cls dd → (∀ v H2, Same H H2 → Rep (zOf X) β H2 v d → Q v H2) → ∃ D, cls = .ref D ∧ PySem.W.exmOne X.K cls (.ref CS) = some true ∧ R D dd H Q) (hz : ∀ (Z : Zx) β H, Rep Z β H z dz)
    (hq : X.env.qual = lawQ)
    (hbody : ∀ (A : Around) (outer : List PySem.Env) (s : Shared) (H : Hp) (E : XK) (f c' : Addr), Room k (A.deeper (lamEnv X scope s.heap.objs.size f c')) → DE (lamCx X A outer s H E scope f c') (WE' E) body gb)
    (hdb : (x == ("__debug__" : Str)) = false := by decide) (hd : (a == ("__debug__" : Str)) = false := by decide) (hcd : (a == ("__classdict__" : Str)) = false := by decide) :
    DE X W (.Call (.Name x p) [.Lambda params body scope lpos] [] pos) (gWrongF lamQ tw dz gb) := by
  have eq : X.env.qual ++ ("<lambda>" : Str) = lamQ := by
    rw [hq]
    rfl
  rw [eq] at hG
  obtain ⟨oc, od, kV, doc, pm, an, cdv, ct, osl, rfl, lk, hcg⟩ := F.ex
  refine ⟨fun pins s0 σ H Q I h => ?_⟩
  obtain ⟨β, ρ, st, hρ, hs, h⟩ := h
  unfold gWrongF at h
  split at h
  · rename_i d' q' h0
    split at h
    · rename_i hq
      obtain ⟨hd', hq⟩ := hq
      subst hd'
      subst hq
      have hmem : ((P : Addr), lamQ) ∈ tabsOf (zOf X) st := by
        rw [← hP]
        exact tabsOf_mem h0
      have huq : ∀ p ∈ tabsOf (zOf X) st, p.1 = P → p.2 = lamQ := by
        rw [← hP]
        exact hs.tabU h0
      refine (pe_lamcall (T := tabsOf (zOf X) st) (t := fun E => tD (zOf X) X.mg (WE' E) gb) hg hm F.kp lk hcg hb Sg hNg hva (by rw [eq]; exact hG cdv) TB hcode (by rw [eq]; exact hmem) (fun p hp z => by rw [eq]; exact huq p hp z) hr L hdef hbind (fun A outer s H E f c' h => hbody A outer s H E f c' h) hdb hd hcd).run pins s0 σ H Q I ?_
      refine ⟨hs.tabs, fun H1 eN T1 => ?_⟩
      have ex := ext_lam (β := β) eN
      refine ⟨β, ρ, st, hρ.ext ex, hs.lam eN T1, ?_⟩
      cases e : gb ρ st with
      | bad => rw [e] at h; exact h.elim
      | ok d s1 =>
        rw [e] at h
        exact fun v β' H' e' S' r' => h z β' H' (ex.trans e') S' (hz _ _ _)
      | exn y s1 =>
        rw [e] at h
        refine fun cls dd β' H' e' S' xr => ?_
        have h : Out.sat (match tw y with
          | some d => Out.ok d s1
          | none => Out.bad) (PostV (zOf X) Q β H) (PostX (zOf X) X.mg (fun c d H' => W c d σ H') β H) := h
        split at h
        · rename_i d hd'
          exact ht y d β' H' cls dd Q hd' xr fun v H2 sm rv => h v β' H2 ((ex.trans e').trans (Ext.same sm)) (S'.same sm) rv
        · exact (show False from h).elim
    · exact h.elim
  · exact h.elim
end
end DL

set_option Elab.async false
set_option linter.all false
set_option maxRecDepth 100000
set_option maxHeartbeats 4000000
/-! # Lambdas made now and called later, with a default too -/
namespace DL
open PySem PySem.Spec L2
open PyProof.Rows hiding St
open LamX hiding takes0
/-- a lambda's object; dV: the tuple of its defaults, or None -/
def lamF (q : Str) (params : Arguments) (body : Expr) (scope : Scope) (cl : List (Str × Addr)) (pm : Value) (c' : Addr) (ctv dV : Value) : FuncData := { PySem.W.kla_fn "<lambda>" q params body scope cl pm (.ref c') ctv with defaults := dV }
def lamO (q : Str) (params : Arguments) (body : Expr) (scope : Scope) (cl : List (Str × Addr)) (pm : Value) (c' : Addr) (ctv dV : Value) : Obj := { cls := .type "function", data := .func (lamF q params body scope cl pm c' ctv dV) }
/-- what is done behind the captured cells' tuple -/
def tail2 (q : Str) (params : Arguments) (body : Expr) (scope : Scope) (env : PySem.Env) (dV : Value) (pos : Pos) (closure : List (Str × Addr)) (ctv : Value) : Sem Value := do
  let code ← functionCode env pos pos.line "<lambda>" q params scope (.expr body)
  let bl ← builtinsFor env.globals env.builtins
  let nm ← nsGet env.globals "__name__"
  let doc ← (pure .none : Sem Value)
  newObj (.type "function") (.func { name := "<lambda>", qualname := q, params := params, body := .expr body, scope := scope, globals := env.globals, closure := closure, closureTuple := ctv, code := code, builtins := bl, defaults := dV, kwdefaults := .none, annotations := none, pyModule := nm.getD .none, doc := doc })
theorem tail_split (q : Str) (params : Arguments) (body : Expr) (scope : Scope) (env : PySem.Env) (dV : Value) (pos : Pos) : makeTail "<lambda>" q params (.expr body) scope env dV .none none pos pos.line = (do
    let closure ← closureFor scope env
    let ctv ← if closure.isEmpty then pure .none else newTextTuple ((closure.mergeSort fun a b => a.1.cps.toList ≤ b.1.cps.toList).map (.ref ·.2))
    tail2 q params body scope env dV pos closure ctv) := rfl
section
variable {M : Model} {A : Around} {E : Value → Shared → Prop} {s : Shared} {q : Str} {params : Arguments} {body : Expr} {scope : Scope} {env : PySem.Env} {c P : Addr} {ps : Array Value} {pos : Pos} {mg : Str → Option Value} {clos : List (Str × Addr)} {dV : Value} {Q : Value → Shared → Prop}
theorem tail2_runs {ctv : Value} (hge0 : env.globals = mainGlobals) (hg : s.heap.Ns mainGlobals mg) (hcode : env.code = .ref c) (C : PySem.W.CodeHd s.heap c P) (hP : s.heap.get? P = some (PySem.W.tabObj ps)) (ht : TriplesOk ps.toList) (hgP : mainGlobals ≠ P) (hb : s.heap.BuiltinsAt mg P)
    (hnew : codeAmong pos ps.toList = none → ∀ c' h' tk, Heap.ExtBut P s.heap h' → s.heap.objs.size ≤ c' → c' < h'.objs.size → h'.CodeRec (.ref c') q → h'.get? P = some (PySem.W.tabObj (ps ++ #[rawInt pos.line, rawInt pos.col, .ref c'])) → Q (.ref h'.objs.size) { s with heap := h'.push (lamO q params body scope clos ((mg "__name__").getD .none) c' ctv dV), toks := tk })
    (hhit : ∀ c', codeAmong pos ps.toList = some (.ref c') → Q (.ref s.heap.objs.size) { s with heap := s.heap.push (lamO q params body scope clos ((mg "__name__").getD .none) c' ctv dV) })
    (href : ∀ cv, codeAmong pos ps.toList = some cv → ∃ c', cv = .ref c') : wpAny M A (tail2 q params body scope env dV pos clos ctv) Q E s := by
  obtain ⟨bm, ob, hbm, hne0, _, hneP, hbo, hcls, hdict, hdata⟩ := hb
  unfold tail2
  rw [hge0]
  cases hc : codeAmong pos ps.toList with
  | none => exact wpAny_bind (wpAny_functionCodeX hcode (C.code hP ht) (C.tab hP) hc fun c' h' tk hx hge hlt _ hrec htb _ => wpAny_bind (wpAny_builtinsFor (hg.extBut hx hgP) hbm hne0 (hx _ _ hneP hbo) hcls hdict hdata (wpAny_bind (wpAny_nsGet (hg.extBut hx hgP) (wpAny_bind (wpAny_pure (wpAny_newObj_type (hnew hc c' h' tk hx hge hlt hrec htb.2) (by size_fits))))))))
  | some cv =>
    obtain ⟨c', rfl⟩ := href cv hc
    exact wpAny_bind (wpAny_functionCode_hit hcode (C.code hP ht) hc (wpAny_bind (wpAny_builtinsFor hg hbm hne0 hbo hcls hdict hdata (wpAny_bind (wpAny_nsGet hg (wpAny_bind (wpAny_pure (wpAny_newObj_type (hhit c' hc) (by size_fits)))))))))
/-- makeTail: the heap grows, the table may get one more code object -/
theorem tail_runs (hcl : closureFor scope env = pure clos) (hge0 : env.globals = mainGlobals) (hg : s.heap.Ns mainGlobals mg) (hcode : env.code = .ref c) (C : PySem.W.CodeHd s.heap c P) (hP : s.heap.get? P = some (PySem.W.tabObj ps)) (ht : TriplesOk ps.toList) (hgP : mainGlobals ≠ P) (hb : s.heap.BuiltinsAt mg P)
    (hnew : codeAmong pos ps.toList = none → ∀ (c' : Addr) (ctv : Value) (h' : Heap) (tk : Tok), Heap.ExtBut P s.heap h' → s.heap.objs.size ≤ c' → c' < h'.objs.size → h'.CodeRec (.ref c') q → h'.get? P = some (PySem.W.tabObj (ps ++ #[rawInt pos.line, rawInt pos.col, .ref c'])) → Q (.ref h'.objs.size) { s with heap := h'.push (lamO q params body scope clos ((mg "__name__").getD .none) c' ctv dV), toks := tk })
    (hhit : ∀ (c' : Addr) (ctv : Value) (h' : Heap), codeAmong pos ps.toList = some (.ref c') → (∀ b o, s.heap.get? b = some o → h'.get? b = some o) → s.heap.objs.size ≤ h'.objs.size → Q (.ref h'.objs.size) { s with heap := h'.push (lamO q params body scope clos ((mg "__name__").getD .none) c' ctv dV) })
    (href : ∀ cv, codeAmong pos ps.toList = some cv → ∃ c', cv = .ref c') : wpAny M A (makeTail "<lambda>" q params (.expr body) scope env dV .none none pos pos.line) Q E s := by
  rw [tail_split, hcl]
  refine wpAny_bind (wpAny_pure ?_)
  cases clos with
  | nil =>
    refine wpAny_bind (wpAny_pure ?_)
    exact tail2_runs hge0 hg hcode C hP ht hgP hb (fun e c' h' tk => hnew e c' .none h' tk) (fun c' e => hhit c' .none s.heap e (fun _ _ z => z) (Nat.le_refl _)) href
  | cons x r =>
    refine wpAny_bind (wpAny_newTextTuple ?_)
    have up : ∀ (oT : Obj) (b : Addr) (o : Obj), s.heap.get? b = some o → (s.heap.push oT).get? b = some o := fun oT b o e => Heap.get?_push_of_some _ e
    have sz : ∀ oT : Obj, s.heap.objs.size ≤ (s.heap.push oT).objs.size := fun oT => by rw [Heap.size_push]; omega
    exact tail2_runs hge0 (hg.push _) hcode (C.keeps (up _)) (up _ _ _ hP) ht hgP (hb.keeps (up _)) (fun e c' h' tk hx hge => hnew e c' _ h' tk (fun b o z y => hx b o z (up _ b o y)) (Nat.le_trans (sz _) hge)) (fun c' e => hhit c' _ _ e (up _) (sz _)) href
end

/-- the object at f is that lambda -/
def LamH (f : Addr) (q : Str) (params : Arguments) (body : Expr) (scope : Scope) (cl : List (Str × Addr)) (c' : Addr) (dV : Value) : HO := .ext fun h => ∃ pm ctv, h.get? f = some (lamO q params body scope cl pm c' ctv dV)
theorem lamH_ok {P : Program} {w : World} {H : Hp} {h : Heap} {f c' : Addr} {q : Str} {params : Arguments} {body : Expr} {scope : Scope} {cl : List (Str × Addr)} {pm ctv dV : Value} (e : h.get? f = some (lamO q params body scope cl pm c' ctv dV)) : ObjOk P w H h f (LamH f q params body scope cl c' dV) :=
  ⟨⟨pm, ctv, e⟩, ⟨_, e⟩, fun _ _ ⟨a, b, z⟩ k => ⟨a, b, k _ z⟩⟩
theorem lamH_at {P : Program} {w : World} {H : Hp} {h : Heap} {f c' : Addr} {q : Str} {params : Arguments} {body : Expr} {scope : Scope} {cl : List (Str × Addr)} {dV : Value} (hok : HOk P w H h) (e : H f = some (LamH f q params body scope cl c' dV)) : ∃ pm ctv, h.get? f = some (lamO q params body scope cl pm c' ctv dV) := by
  have x : ObjOk P w H h f (.ext fun h => ∃ pm ctv, h.get? f = some (lamO q params body scope cl pm c' ctv dV)) := hok f _ e
  exact x.1
theorem lamH_tbl {f c' : Addr} {q : Str} {params : Arguments} {body : Expr} {scope : Scope} {cl : List (Str × Addr)} {dV : Value} (ps : Array Value) : LamH f q params body scope cl c' dV ≠ .tbl ps := fun z => by
  have z' : HO.ext _ = HO.tbl ps := z
  cases z'
section
variable {X : Cx} {pins : List (Addr × Obj)} {σ : L2.St} {H : Hp} {s : Shared}
/-- the lambda is made, and known from now on -/
theorem lam_core {T : List (Addr × Str)} {c P : Addr} {params : Arguments} {body : Expr} {scope : Scope} {pos : Pos} {E : Value → Shared → Prop} {Q : Value → Shared → Prop} {dV : Value} (I : Inv X pins σ H s) (TB : TabB X.base X.mg c P) (hcode : X.env.code = .ref c)
    (hm : (P, X.env.qual ++ "<lambda>") ∈ T) (hu : ∀ p ∈ T, p.1 = P → p.2 = X.env.qual ++ "<lambda>") (hT : Tabs T H) (hfree : ∀ y ∈ scope.names, y.2 = .free → ∃ c, X.env.cells.lookup y.1 = some c)
    (h : ∀ (f c' : Addr) (H1 : Hp) (s' : Shared), Inv X pins σ H1 s' → ExtN H H1 → Tabs T H1 → H f = none → H1 f = some (LamH f (X.env.qual ++ "<lambda>") params body scope (cloFrom X.env.cells scope.names []) c' dV) → H1 c' = some (CodeO c' (X.env.qual ++ "<lambda>")) → Q (.ref f) s') :
    wpAny (model X.prog X.w) X.A (makeTail "<lambda>" (X.env.qual ++ "<lambda>") params (.expr body) scope X.env dV .none none pos pos.line) Q E s := by
  obtain ⟨ps, hP, ht, ha⟩ := hT _ hm
  have bP : s.heap.BuiltinsAt X.mg P := TB.bm.keeps I.bk
  have hP' : s.heap.get? P = some { cls := .none, data := .fields ps } := I.hok P _ hP
  refine tail_runs (mg := X.mg) (c := c) (P := P) (ps := ps) (closure_ok hfree) I.ok.glob (I.mod.glob.keeps I.bk) hcode (TB.code.keeps I.bk) hP' ht TB.gP bP (fun hc c' ctv h' tk hx hge hlt hrec htb => ?_) (fun c' ctv h' hc hx hsz => ?_) fun cv hc => let ⟨c', e, _⟩ := ha pos cv hc; ⟨c', e⟩
  · obtain ⟨c2, oc, vs, t, e2, hoc, hd, hv⟩ := hrec
    cases e2
    have nC : H c' = none := I.hok.fresh hge
    have hsz : s.heap.objs.size ≤ h'.objs.size := Nat.le_trans hge (Nat.le_of_lt hlt)
    have nF : H h'.objs.size = none := I.hok.fresh hsz
    have I1 := inv_table (t' := tk) (more := #[rawInt pos.line, rawInt pos.col, .ref c']) (h' := h') I hP (fun b o hb e => hx b o hb e) htb hge ⟨oc, vs, t, hoc, hd, hv⟩
    have nF1 : upd (upd H P (.tbl (ps ++ #[rawInt pos.line, rawInt pos.col, .ref c']))) c' (CodeO c' (X.env.qual ++ "<lambda>")) h'.objs.size = none := I1.hok.fresh (Nat.le_refl _)
    have I2 := I1.laid (t' := tk) (a := h'.objs.size) (h' := h'.push (lamO (X.env.qual ++ "<lambda>") params body scope (cloFrom X.env.cells scope.names []) ((X.mg "__name__").getD .none) c' ctv dV)) (fun b o e => Heap.get?_push_of_some _ e) (Nat.le_refl _) (lamH_ok (Heap.get?_push_at rfl rfl))
    have hE1 : ExtN H (upd (upd H P (.tbl (ps ++ #[rawInt pos.line, rawInt pos.col, .ref c']))) c' (CodeO c' (X.env.qual ++ "<lambda>"))) := fun b o e n => by
      rw [upd_ne (ne_of_none e nC), upd_ne (fun z => n ps (Option.some.inj (e.symm.trans (by rw [z]; exact hP))))]
      exact e
    have sm : ∀ {G : Hp} {a : Addr} {u : HO}, G a = none → Same G (upd G a u) := fun e => same_new e
    have hE := hE1.trans (ExtN.of (sm (u := LamH h'.objs.size (X.env.qual ++ "<lambda>") params body scope (cloFrom X.env.cells scope.names []) c' dV) nF1))
    have eL : (ps ++ #[rawInt pos.line, rawInt pos.col, .ref c']).toList = ps.toList ++ [rawInt pos.line, rawInt pos.col, .ref c'] := by simp
    refine h h'.objs.size c' _ _ I2 hE (Tabs.ext (fun p hp => ?_) (sm nF1)) nF upd_same (sm nF1 _ _ upd_same)
    by_cases hb : p.1 = P
    · rw [hu p hp hb, hb]
      refine ⟨_, by rw [upd_ne (ne_of_none hP nC), upd_same], by rw [eL]; exact PySem.TriplesOk_snoc _ _ _ _ ht, fun p' cv hcv => ?_⟩
      rw [eL] at hcv
      rcases among_app _ ht hcv with z | z
      · obtain ⟨c0, e1, e2⟩ := ha p' cv z
        exact ⟨c0, e1, hE1 _ _ e2 codeO_ne⟩
      · exact ⟨c', z, upd_same⟩
    · obtain ⟨ps', a1, a2, a3⟩ := hT p hp
      refine ⟨ps', by rw [upd_ne (ne_of_none a1 nC), upd_ne hb]; exact a1, a2, fun p' cv hcv => ?_⟩
      obtain ⟨c0, e1, e2⟩ := a3 p' cv hcv
      exact ⟨c0, e1, hE1 _ _ e2 codeO_ne⟩
  · obtain ⟨c0, e, hco⟩ := ha pos _ hc
    cases e
    have nF : H h'.objs.size = none := I.hok.fresh hsz
    have I2 := I.laid (t' := s.toks) (a := h'.objs.size) (h' := h'.push (lamO (X.env.qual ++ "<lambda>") params body scope (cloFrom X.env.cells scope.names []) ((X.mg "__name__").getD .none) c' ctv dV)) (fun b o e => Heap.get?_push_of_some _ (hx b o e)) hsz (lamH_ok (Heap.get?_push_at rfl rfl))
    have sm : Same H (upd H h'.objs.size (LamH h'.objs.size (X.env.qual ++ "<lambda>") params body scope (cloFrom X.env.cells scope.names []) c' dV)) := same_new nF
    exact h h'.objs.size c' _ _ I2 (ExtN.of sm) (Tabs.ext hT sm) nF upd_same (sm _ _ hco)
end

/-- what a default is: none, or one whole number in a tuple -/
def DflH (H : Hp) (dvs : List V) (dV : Value) : Prop := (dvs = [] ∧ dV = .none) ∨ ∃ (t : Addr) (i : Int), dvs = [.int i] ∧ dV = .ref t ∧ H t = some (.tup [.int i])
def tLamH (X : Cx) (T : List (Addr × Str)) (params : Arguments) (body : Expr) (scope : Scope) (dvs : List V) : TE := fun _ H Q => Tabs T H ∧ ∀ (f c' : Addr) (dV : Value) (H1 : Hp), ExtN H H1 → Tabs T H1 → H f = none → H1 f = some (LamH f (X.env.qual ++ "<lambda>") params body scope (cloFrom X.env.cells scope.names []) c' dV) → H1 c' = some (CodeO c' (X.env.qual ++ "<lambda>")) → DflH H1 dvs dV → Q (.ref f) H1
def DflE (X : Cx) (params : Arguments) (dvs : List V) : Prop := (dvs = [] ∧ defaultsOf params X.env = ([], [])) ∨ ∃ (i : Int) (j : Nat) (p : Pos), dvs = [.int i] ∧ defaultsOf params X.env = ([eval (.Constant (.int i) j p) X.env], [])
theorem pe_lamH {X : Cx} {T : List (Addr × Str)} {c P : Addr} {params : Arguments} {body : Expr} {scope : Scope} {pos : Pos} {dvs : List V} (TB : TabB X.base X.mg c P) (hcode : X.env.code = .ref c) (hm : (P, X.env.qual ++ "<lambda>") ∈ T) (hu : ∀ p ∈ T, p.1 = P → p.2 = X.env.qual ++ "<lambda>")
    (hfree : X.Ok → ∀ y ∈ scope.names, y.2 = .free → ∃ c, X.env.cells.lookup y.1 = some c) (hd : DflE X params dvs) : PE X (.Lambda params body scope pos) (tLamH X T params body scope dvs) := by
  refine ⟨fun pins s σ H Q I ⟨hT, h⟩ => ?_⟩
  rw [arm_eval_Lambda]
  rcases hd with ⟨rfl, hd⟩ | ⟨i, j, p, rfl, hd⟩
  · rw [hd]
    refine wpAny_bind (wpAny_pure (wpAny_bind (wpAny_holding (wpAny_pure ?_))))
    rw [makeFunction_eq]
    simp only [List.zip_nil_right, List.filterMap_nil, List.isEmpty_nil, if_true, pure_bind]
    exact lam_core I TB hcode hm hu hT (hfree I.ok) fun f c' H1 s' I1 e1 t1 n1 l1 o1 => ⟨.ref f, H1, I1, rfl, h f c' .none H1 e1 t1 n1 l1 o1 (.inl ⟨rfl, rfl⟩)⟩
  · rw [hd]
    refine wpAny_bind (wpAny_bind (wpAny_Constant_int (wpAny_bind (wpAny_holding (wpAny_pure (wpAny_pure (wpAny_bind (wpAny_holding (wpAny_pure ?_)))))))))
    rw [makeFunction_eq]
    simp only [List.zip_nil_right, List.filterMap_nil, List.isEmpty_nil, List.isEmpty_cons, if_true, pure_bind]
    refine wpAny_bind (wpAny_newTextTuple ?_)
    have nT : H s.heap.objs.size = none := I.hok.fresh (Nat.le_refl _)
    have I1 := I.laid (t' := s.toks + 1) (a := s.heap.objs.size) (o := .tup [.int i]) (h' := s.heap.push { cls := .type "tuple", data := .seq [Value.int i s.toks].toArray }) (fun b o e => Heap.get?_push_of_some _ e) (Nat.le_refl _) ⟨by rw [sizeLine_eq]; exact Nat.le_trans (Nat.le_of_eq (rfl : _ = 1)) (by decide), [Value.int i s.toks], .cons ⟨_, rfl⟩ .nil, ⟨_, Heap.get?_push_at rfl rfl, rfl, _, rfl⟩⟩
    have sm : Same H (upd H s.heap.objs.size (.tup [.int i])) := same_new nT
    refine lam_core I1 TB hcode hm hu (Tabs.ext hT sm) (hfree I.ok) fun f c' H1 s' J e1 t1 n1 l1 o1 => ⟨.ref f, H1, J, rfl, h f c' _ H1 ((ExtN.of sm).trans e1) t1 ?_ l1 o1 (.inr ⟨_, i, rfl, rfl, e1 _ _ upd_same fun _ z => by cases z⟩)⟩
    cases q : H f with
    | none => rfl
    | some o =>
      have := sm f o q
      rw [n1] at this
      cases this
end DL

set_option Elab.async false
set_option linter.all false
set_option maxRecDepth 100000
set_option maxHeartbeats 4000000
/-! # .. and called -/
namespace DL
open PySem PySem.Spec L2
open PyProof.Rows hiding St
open LamX hiding takes0
/-- a lambda's names: captured ones and globals; what it has of its own isn't among N -/
structure LamT (N : List Str) (sc scope : Scope) : Prop where
  kind : scope.kind = .function
  co : scope.isCoroutine = false
  gen : scope.isGenerator = false
  nc : ∀ y ∈ scope.names, y.2 ≠ .cell
  lo : ∀ y ∈ N, scope.names.lookup y ≠ some .local
  free : ∀ y ∈ scope.names, y.2 = .free → sc.names.lookup y.1 = some .cell ∨ sc.names.lookup y.1 = some .free
def lamTB (N : List Str) (sc scope : Scope) : Bool := decide (scope.kind = .function) && (!scope.isCoroutine && (!scope.isGenerator && ((scope.names.all fun y => !decide (y.2 = .cell)) && ((N.all fun y => !decide (scope.names.lookup y = some .local)) && scope.names.all fun y => !decide (y.2 = .free) || (decide (sc.names.lookup y.1 = some .cell) || decide (sc.names.lookup y.1 = some .free))))))
theorem lamT_by {N : List Str} {sc scope : Scope} (h : lamTB N sc scope = true) : LamT N sc scope := by
  simp only [lamTB, Bool.and_eq_true, Bool.or_eq_true, Bool.not_eq_true', decide_eq_true_eq, decide_eq_false_iff_not, List.all_eq_true] at h
  exact ⟨h.1, h.2.1, h.2.2.1, h.2.2.2.1, h.2.2.2.2.1, fun y hy e => (h.2.2.2.2.2 y hy).elim (fun z => absurd e z) id⟩
theorem LamT.has {X : Cx} {scope : Scope} (L : LamT X.N X.env.scope scope) (ok : X.Ok) (y : Str × NameKind) (hy : y ∈ scope.names) (e : y.2 = .free) : ∃ c, X.env.cells.lookup y.1 = some c := ok.has _ (L.free y hy e)
/-- how it binds nothing -/
def BindD (params : Arguments) (body : Expr) (scope : Scope) (dvs : List V) : Prop := (dvs = [] ∧ ∀ q cl pm c' ctv, bindArgs (lamF q params body scope cl pm c' ctv .none) ⟨[], []⟩ = pure []) ∨
  ∃ (i : Int) (an : Str), dvs = [.int i] ∧ scope.names.lookup an = some .local ∧ ∀ q cl pm c' ctv (T : Addr) (v : Value), ∃ k, bindArgs (lamF q params body scope cl pm c' ctv (.ref T)) ⟨[], []⟩ = seqItems? (.ref T) >>= k ∧ k (some #[v]) = pure [(an, v)]
section
variable {X : Cx} {pins : List (Addr × Obj)} {σ : L2.St} {H HZ : Hp} {s s1 : Shared}
theorem lam_startT {A : Around} {outer : List PySem.Env} {E : XK} {scope : Scope} {f c' : Addr} {h₁ : Heap} {tk : Nat} {bs : List (Str × Value)} (I : Inv X pins σ H s) (L : LamT X.N X.env.scope scope) (e0 : Env0 X.prog X.w X.K X.mg X.base A outer s1 HZ) (hd : A.handled = none)
    (un : Un (frs X.stack) [] H HZ s.heap s1.heap) (hns : h₁.Ns s1.heap.objs.size fun y => bs.reverse.lookup y) (kp : ∀ b o, s1.heap.get? b = some o → h₁.get? b = some o) : Inv (lamCx X A outer s1 HZ E scope f c') [] σ HZ { s1 with heap := h₁, toks := tk } := by
  have cm : ∀ {y : Str} {c : Addr}, (cloFrom X.env.cells scope.names []).lookup y = some c → X.env.cells.lookup y = some c := fun {y c} e => (cloFrom_mem (PySem.mem_of_lookup e)).elim (fun hm => nomatch hm) fun ⟨h1, h2⟩ => by
    obtain ⟨c1, hc⟩ := L.has I.ok _ h1 rfl
    have hc : X.env.cells.lookup y = some c1 := hc
    rw [hc] at h2
    rw [hc, h2]
    rfl
  have look : ∀ {y : Str}, scope.names.lookup y = some .free → ∃ c, (cloFrom X.env.cells scope.names []).lookup y = some c := fun hl => mem_lookup (cloFrom_has (cells := X.env.cells) (acc := []) (PySem.mem_of_lookup hl))
  have cellK : ∀ {c : Addr} {v : Option Value}, H c = none → s.heap.IsCell c v → h₁.IsCell c v := fun n ⟨o, ho, hd⟩ => let ⟨sl, q⟩ := un.any ho n (by simp); ⟨_, kp _ _ q, hd⟩
  have noA : ∀ b : Addr, b ∉ (lamCx X A outer s1 HZ E scope f c').ex := fun b z => nomatch (show b ∈ ([] : List Addr) from z)
  have ncl : ∀ {y : Str}, scope.names.lookup y ≠ some .cell := fun z => L.nc _ (PySem.mem_of_lookup z) rfl
  refine ⟨⟨e0.mod, L.kind, rfl, rfl, Nat.le_refl _, fun y z c e1 e2 => I.ok.inj y z c (cm e1) (cm e2), fun y hy => hy.elim (fun z => (ncl (show scope.names.lookup y = _ from z)).elim) look, fun y c z _ => (nomatch (show false = true from z)), fun _ => hd, Around.frames_deeper e0.frames, .inr ⟨rfl, rfl⟩, fun b z => (noA b z).elim, e0.bs, e0.bsz, fun b _ _ => noA b, fun b z => (noA b z).elim, e0.funs, e0.frf⟩,
    rfl, e0.bare, Un.kept kp, ⟨_, hns, fun i y v e1 e2 e3 => ?_⟩, fun y c e => let ⟨w', z⟩ := I.cell y c (cm e); ⟨w', cellK (I.freeC y c (cm e)) z⟩, e0.hok.fresh (Nat.le_refl _), fun y c e => let ⟨v, o, ho, _⟩ := I.cell y c (cm e); un.free c o ho (I.freeC y c (cm e)) (by simp), fun q hq => (nomatch (show q ∈ ([] : List (Addr × Obj)) from hq)), e0.hok.kept kp, I.len⟩
  rcases (show Vis scope y from e3) with k | k | k
  · exact (L.lo y (List.mem_of_getElem? e1) k).elim
  · exact (ncl k).elim
  · have kf := L.free _ (PySem.mem_of_lookup k) rfl
    obtain ⟨m, hn, hl⟩ := I.loc
    obtain ⟨w', r, q⟩ := hl i y v e1 e2 (kf.elim (fun k => .inr (.inl k)) (fun k => .inr (.inr k)))
    obtain ⟨c2, h2⟩ := look k
    refine ⟨w', r, .inr ⟨.inr k, c2, h2, ?_⟩⟩
    have c1 := cm h2
    rcases q with ⟨k', _⟩ | ⟨_, c3, e', z⟩
    · have k' : X.env.scope.names.lookup y = some .local := k'
      rcases kf with k2 | k2
      · rw [show X.env.scope.names.lookup y = _ from k2] at k'
        cases k'
      · rw [show X.env.scope.names.lookup y = _ from k2] at k'
        cases k'
    · rw [c1] at e'
      cases e'
      exact cellK (I.freeC y _ c1) z
/-- x(), in the def that got it -/
theorem pe_actT {CXg : CXT} {Eg : XK} {Ng : List Str} {qg : Str} {sg : Scope} {g f c' : Addr} {cdg dV : Value} {params : Arguments} {body : Expr} {scope : Scope} {k i : Nat} {a : Str} {pn : List (Addr × Obj)} {xe : Value → Shared → Prop} {W : WX} {E : XK} {tb : TE} {p1 p2 : Pos} {dvs : List V}
    (I : Inv X pins σ H s) (L : LamT X.N X.env.scope scope) (hb : BindD params body scope dvs) (tk : Takes ((cxOf CXg X.prog X.w X.K X.mg X.base Ng qg sg g cdg X.A X.stack s H Eg).tr pn xe) W) (hW : ∀ cls d σ' H', E cls d H' → W cls d σ' H') (hr : Room (k + 1) (X.A.deeper (envOfC qg sg s.heap.objs.size g cdg)))
    (hbody : ∀ (A : Around) (outer : List PySem.Env) (s : Shared) (H : Hp), Room k (A.deeper (lamEnv X scope s.heap.objs.size f c')) → PE (lamCx X A outer s H E scope f c') body tb)
    (hN : Ng[i]? = some a) (hv : Vis sg a) (hd : (a == ("__debug__" : Str)) = false := by decide) (hcd : (a == ("__classdict__" : Str)) = false := by decide) :
    PE ((cxOf CXg X.prog X.w X.K X.mg X.base Ng qg sg g cdg X.A X.stack s H Eg).tr pn xe) (.Call (.Name a p1) [] [] p2)
      (fun σZ HZ Q => σZ[i]? = some (some (.ref f)) ∧ HZ f = some (LamH f (X.env.qual ++ "<lambda>") params body scope (cloFrom X.env.cells scope.names []) c' dV) ∧ HZ c' = some (CodeO c' (X.env.qual ++ "<lambda>")) ∧ DflH HZ dvs dV ∧ tb σ HZ Q) := by
  refine ⟨fun pinsZ sZ σZ HZ Q IZ ⟨hs, hf, hc, hdf, ht⟩ => ?_⟩
  refine wpAny_Call_Name_kw (thn ((pe_var (pos := p1) (i := i) hN hv hd hcd).run pinsZ sZ σZ HZ (fun v H1 => v = .ref f ∧ H1 = HZ) IZ ⟨.ref f, hs, rfl, rfl⟩) fun u s1 ⟨v, H1, I1, r1, ev, eH⟩ => ?_)
  subst ev eH
  obtain rfl : u = Value.ref f := r1
  obtain ⟨pm, ctv, of1⟩ := lamH_at I1.hok hf
  refine PySem.W.callWith_F0 ⟨_, _, _, _, of1⟩ ?_
  have un : Un (frs X.stack) [] H H1 s.heap s1.heap := I1.base
  obtain ⟨⟨oc, vs, t, hoc, hdc, hvc⟩, _, _⟩ := I1.hok c' _ hc
  have fin : ∀ (bs : List (Str × Value)), (∀ y ∈ bs, scope.names.lookup y.1 = some .local) → wpAny (model X.prog X.w) (X.A.deeper (envOfC qg sg s.heap.objs.size g cdg)).in1 (newFunctionEnv scope mainGlobals (cloFrom X.env.cells scope.names []) bs ((X.env.qual ++ "<lambda>") ++ ".<locals>.") (some f) (.ref c') none builtinsNs)
      (fun env s₂ => s₂.heap.NoLimit ∧ codeAny (model X.prog X.w) (X.A.deeper (envOfC qg sg s.heap.objs.size g cdg)) (.expr body env) (CR (L2.CX X.prog X.w) (envOfC qg sg s.heap.objs.size g cdg :: X.stack) X.prog X.w H1 s1 Q E) s₂) (fun e s' => CR (L2.CX X.prog X.w) (envOfC qg sg s.heap.objs.size g cdg :: X.stack) X.prog X.w H1 s1 Q E (.error e) s') s1 := fun bs hbs => by
    refine wpAny_newFunctionEnv L.nc hbs (fun h₁ hns hsb => ⟨I1.nolimit.fresh _ hsb, ?_⟩) L.kind
    have kp : ∀ b o, s1.heap.get? b = some o → h₁.get? b = some o := fun b o e => hsb.extBut b o (Nat.ne_of_lt (Heap.lt_size e)) (Heap.get?_push_of_some _ e)
    show codeAny _ _ (.expr body (lamEnv X scope s1.heap.objs.size f c')) _ _
    have J : Inv (lamCx X (X.A.deeper (envOfC qg sg s.heap.objs.size g cdg)) (envOfC qg sg s.heap.objs.size g cdg :: X.stack) s1 H1 E scope f c') [] σ H1 { s1 with heap := h₁, toks := s1.toks + bs.length } := lam_startT I L I1.env0 hr.hd un hns kp
    exact PySem.W.kla_codeExpr (wpAny_mono ((hbody _ _ s1 H1 (hr.deeper _)).run [] _ _ H1 Q J ht) (fun v s' ⟨w', H', J', rv, q⟩ => ⟨w', H', J'.os, J'.bare, J'.base, J'.hok, rv, q⟩) fun e s' hq => hq)
  have rc : codeAny (model X.prog X.w) (X.A.deeper (envOfC qg sg s.heap.objs.size g cdg)) (.call (.ref f) ⟨[], []⟩) (CR (L2.CX X.prog X.w) (envOfC qg sg s.heap.objs.size g cdg :: X.stack) X.prog X.w H1 s1 Q E) s1 := by
    refine PySem.W.kla_callFunE hr.depth of1 rfl L.co L.gen rfl ⟨c', oc, vs, t, rfl, hoc, hdc, hvc⟩ ?_
    rcases hb with ⟨e1, hb⟩ | ⟨i, an, e1, hl, hb⟩
    · rcases hdf with ⟨_, rfl⟩ | ⟨t, i, e2, _⟩
      · rw [hb]
        exact wpAny_pure (fin [] fun y hy => nomatch hy)
      · rw [e1] at e2
        cases e2
    · rcases hdf with ⟨e2, _⟩ | ⟨t, i2, e2, rfl, hT⟩
      · rw [e1] at e2
        cases e2
      · obtain ⟨_, its, rv, o, ho, hcl, n, hdt⟩ := I1.hok t _ hT
        obtain ⟨v, rfl⟩ : ∃ v, its = [v] := by
          cases rv with
          | cons a b =>
            cases b
            exact ⟨_, rfl⟩
        obtain ⟨k, ek, er⟩ := hb (X.env.qual ++ "<lambda>") (cloFrom X.env.cells scope.names []) pm c' ctv t v
        rw [ek]
        refine wpAny_bind (wpAny_seqItems ho hdt ?_)
        show wpAny _ _ (k (some #[v])) _ _ _
        rw [er]
        exact wpAny_pure (fin [(an, v)] fun y hy => by
          rw [List.mem_singleton.mp hy]
          exact hl)
  refine wpAny_call (codeAny_mono rc fun r s' hq => ?_)
  cases r with
  | error e => exact (passes_call tk hW : Passes (L2.CX X.prog X.w) ((cxOf CXg X.prog X.w X.K X.mg X.base Ng qg sg g cdg X.A X.stack s H Eg).tr pn xe) E) pinsZ σZ H1 s1 e s' I1 hq
  | ok fl =>
    cases fl with
    | ret u => exact I1.after hq
    | next => exact False.elim hq
    | brk => exact False.elim hq
    | cont => exact False.elim hq
end
end DL

set_option Elab.async false
set_option linter.all false
set_option maxRecDepth 100000
set_option maxHeartbeats 4000000
/-! # A def that tells what its argument raises; the argument: any expression that gives a lambda made before -/
namespace DL
open PySem PySem.Spec L2
open PyProof.Rows hiding St
open LamX hiding takes0
/-- a lambda's text -/
structure LamI where
  params : Arguments
  body : Expr
  scope : Scope
  dvs : List V
def LamI.at (X : Cx) (H : Hp) (f : Addr) (L : LamI) : Prop := ∃ (c' : Addr) (dV : Value), H f = some (LamH f (X.env.qual ++ "<lambda>") L.params L.body L.scope (cloFrom X.env.cells L.scope.names []) c' dV) ∧ H c' = some (CodeO c' (X.env.qual ++ "<lambda>")) ∧ DflH H L.dvs dV
/-- gb tells its body -/
structure LamOk (X : Cx) (k : Nat) (gb : G D) (L : LamI) : Prop where
  t : LamT X.N X.env.scope L.scope
  b : BindD L.params L.body L.scope L.dvs
  body : ∀ (A : Around) (outer : List PySem.Env) (s : Shared) (H : Hp) (E : XK) (f c' : Addr), Room k (A.deeper (lamEnv X L.scope s.heap.objs.size f c')) → DE (lamCx X A outer s H E L.scope f c') (WE' E) L.body gb
theorem Ext.nlo {β β' : Bx} {H H' : Hp} (e : Ext β H β' H') {b : Addr} {o : HO} (hb : b ∉ β.lo) (h : H b = some o) (n : ∀ ps, o ≠ .tbl ps) : b ∉ β'.lo := fun z => by
  obtain ⟨new, e1, f⟩ := e.pre
  rw [e1] at z
  rcases List.mem_append.mp z with z | z
  · exact hb z
  · obtain ⟨ps, z⟩ := f b z o h
    exact n ps z
theorem LamI.ext {X : Cx} {β β' : Bx} {H H' : Hp} {f : Addr} {L : LamI} (e : Ext β H β' H') (hf : f ∉ β.lo) (h : L.at X H f) : L.at X H' f ∧ f ∉ β'.lo := by
  obtain ⟨c', dV, h1, h2, h3⟩ := h
  refine ⟨⟨c', dV, e.keep _ _ hf h1 lamH_tbl, e.cod _ _ h2, ?_⟩, e.nlo hf h1 lamH_tbl⟩
  rcases h3 with h3 | ⟨t, i, e1, e2, e3⟩
  · exact .inl h3
  · exact .inr ⟨t, i, e1, e2, e.tup _ _ e3⟩
section
variable {X : Cx} {W : WX}
theorem pe_callH {ae : Expr} {ta : TE} {x a : Str} {stg : Stmt} {g : Addr} {fdg : FuncData} {Ng : List Str} {CS : Addr} {R : Addr → Option Addr → Hp → VK → Prop} {z : V} {k : Nat} {p pos : Pos}
    (F : Fun X.K x x stg g fdg) (hb : L2.Binds X.K fdg [a] []) (Sg : FnScope Ng [a] (defScope stg)) (hNg : Ng[0]? = some a) (hva : Vis (defScope stg) a) (hg : Gl X x) (hm : X.mg x = some (.ref g))
    (hG : ∀ cdv, GivesTo X Ng x (defScope stg) g cdv (defBody stg) a (X.env.qual ++ "<lambda>") (TTwF X.K CS R z)) (hr : Room (k + 2) X.A) (ha : PE X ae ta)
    (hdb : (x == ("__debug__" : Str)) = false := by decide) (hd : (a == ("__debug__" : Str)) = false := by decide) (hcd : (a == ("__classdict__" : Str)) = false := by decide)
    (he : starEach (ae :: []) X.env = (false, eval ae X.env) :: starEach [] X.env := by rfl) (hpl : (backTo pos (starEach [] X.env)).any (·.1) = false := by rfl) :
    PE X (.Call (.Name x p) [ae] [] pos) (fun σ H Q => ta σ H fun v H1 => ∃ (f : Addr) (L : LamI) (gb : G D), v = .ref f ∧ L.at X H1 f ∧ LamOk X k gb L ∧ TTwF X.K CS R z (fun E H' Q' => tD (zOf X) X.mg (WE' E) gb σ H' Q') H1 Q) := by
  obtain ⟨oc, od, kV, doc, pm, an, cdv, ct, osl, rfl, lk, hcg⟩ := F.ex
  refine ⟨fun pins s σ H Q I h => wpAny_Call_Name_kw (ld_glob I hg hm (PySem.W.callWith_K (h₀ := X.base) I.ok.mod.kin F.kp (thn ((pa_cons ha pa_nil he).run pos pins s σ H (fun vs H1 => ∃ v, vs = [v] ∧ ∃ (f : Addr) (L : LamI) (gb : G D), v = .ref f ∧ L.at X H1 f ∧ LamOk X k gb L ∧ TTwF X.K CS R z (fun E H' Q' => tD (zOf X) X.mg (WE' E) gb σ H' Q') H1 Q) I ?_) fun us s1 ⟨vs, H1, I1, r1, v, ev, f, L, gb, ef, hL, ok, ht⟩ => ⟨I1.kIn, ?_⟩) he hpl) hdb)⟩
  · have h : ta σ H fun v H1 => ∃ (f : Addr) (L : LamI) (gb : G D), v = .ref f ∧ L.at X H1 f ∧ LamOk X k gb L ∧ TTwF X.K CS R z (fun E H' Q' => tD (zOf X) X.mg (WE' E) gb σ H' Q') H1 Q := h
    have eQ : (fun (v : V) (H1 : Hp) => ∃ (f : Addr) (L : LamI) (gb : G D), v = .ref f ∧ L.at X H1 f ∧ LamOk X k gb L ∧ TTwF X.K CS R z (fun E H' Q' => tD (zOf X) X.mg (WE' E) gb σ H' Q') H1 Q) = fun x H1 => ∃ v, [x] = [v] ∧ ∃ (f : Addr) (L : LamI) (gb : G D), v = .ref f ∧ L.at X H1 f ∧ LamOk X k gb L ∧ TTwF X.K CS R z (fun E H' Q' => tD (zOf X) X.mg (WE' E) gb σ H' Q') H1 Q := by
      funext x H1
      refine propext ⟨fun q => ⟨x, rfl, q⟩, fun ⟨v, e, q⟩ => ?_⟩
      cases e
      exact q
    rw [eQ] at h
    exact h
  · subst ev
    subst ef
    obtain ⟨c', dV, h1, h2, h3⟩ := hL
    obtain ⟨u, rfl⟩ : ∃ u, us = [u] := by
      cases r1 with
      | cons a b =>
        cases b
        exact ⟨_, rfl⟩
    obtain rfl : u = Value.ref f := by
      cases r1 with
      | cons a b => exact a
    have rc : codeAny (model X.prog X.w) X.A (.call (.ref g) ⟨[.ref f], []⟩) (CR C8.CX0 X.stack X.prog X.w H1 s1 Q C8.E0) s1 := by
      refine run_ofS (N := Ng) (ps := [a]) (us := [.ref f]) (vs := [.ref f]) lk hcg Sg hr I1.env0 (hb s1 [.ref f] I1.kIn rfl) (.cons rfl .nil) rfl fun hr' => ?_
      obtain ⟨t', ht', hq'⟩ := hG cdv f c' s1 H1 Q (fun E H' Q' => H' f = some (LamH f (X.env.qual ++ "<lambda>") L.params L.body L.scope (cloFrom X.env.cells L.scope.names []) c' dV) ∧ DflH H' L.dvs dV ∧ tD (zOf X) X.mg (WE' E) gb σ H' Q')
        (fun W pn xe E p1 p2 tk hW => PEmono (pe_actT (i := 0) (dV := dV) I1 ok.t ok.b tk hW hr' (fun A outer s H hr2 => ok.body A outer s H E f c' hr2) hNg hva hd hcd) fun σZ HZ Q ⟨z1, z2, z3, z4, z5⟩ => ⟨z1, z3, z2, z4, z5⟩) h2 ⟨h1, h3, ht⟩
      exact ⟨t', ht'.nox, hq'⟩
    refine wpAny_call (codeAny_mono rc fun r s2 hq => ?_)
    cases r with
    | error e => exact (show False from hq).elim
    | ok fl =>
      cases fl with
      | ret u => exact I1.after hq
      | next => exact False.elim hq
      | brk => exact False.elim hq
      | cont => exact False.elim hq
/-- what the errors are told as, of data -/
structure TellF (X : Cx) (CS : Addr) (R : Addr → Option Addr → Hp → VK → Prop) (z : V) (tw : Exn → Option D) (dz : D) : Prop where
  t : ∀ (y : Exn) (d : D) (β : Bx) (H : Hp) (cls : Value) (dd : Option Addr) (Q : VK), tw y = some d → XRep (zOf X) X.mg β H y cls dd → (∀ v H2, Same H H2 → Rep (zOf X) β H2 v d → Q v H2) → ∃ D, cls = .ref D ∧ PySem.W.exmOne X.K cls (.ref CS) = some true ∧ R D dd H Q
  z : ∀ (Z : Zx) β H, Rep Z β H z dz
/-- what the call gives, of data -/
def gTell (tw : Exn → Option D) (dz : D) (gb : G D) : G D := fun ρ st => match gb ρ st with
  | .ok _ s1 => .ok dz s1
  | .exn x s1 => (match tw x with
    | some d => .ok d s1
    | none => .bad)
  | .bad => .bad
theorem tell_reads {CS : Addr} {R : Addr → Option Addr → Hp → VK → Prop} {z : V} {tw : Exn → Option D} {dz : D} {gb : G D} (TL : TellF X CS R z tw dz) {β β0 : Bx} {ρ : Env} {st : Sto} {σ : L2.St} {H H0 : Hp} {Q : VK} {E : Exn → Sto → Prop} (hρ : RepEnv (zOf X) β H σ ρ) (hs : StoOk (zOf X) β H st) (e0 : Ext β0 H0 β H)
    (h : (gTell tw dz gb ρ st).sat (PostV (zOf X) Q β0 H0) E) : TTwF X.K CS R z (fun E H' Q' => tD (zOf X) X.mg (WE' E) gb σ H' Q') H Q := by
  refine ⟨β, ρ, st, hρ, hs, ?_⟩
  unfold gTell at h
  cases e : gb ρ st with
  | bad => rw [e] at h; exact h.elim
  | ok d s1 =>
    rw [e] at h
    exact fun v β' H' e' S' r' => h z β' H' (e0.trans e') S' (TL.z _ _ _)
  | exn y s1 =>
    rw [e] at h
    refine fun cls dd β' H' e' S' xr => ?_
    have h : Out.sat (match tw y with
      | some d => Out.ok d s1
      | none => Out.bad) (PostV (zOf X) Q β0 H0) E := h
    split at h
    · rename_i d hd'
      exact TL.t y d β' H' cls dd Q hd' xr fun v H2 sm rv => h v β' H2 ((e0.trans e').trans (Ext.same sm)) (S'.same sm) rv
    · exact (show False from h).elim
end
end DL

set_option Elab.async false
set_option linter.all false
set_option maxRecDepth 100000
set_option maxHeartbeats 4000000
/-! # A list of lambdas, one of them handed on -/
namespace DL
open PySem PySem.Spec L2
open PyProof.Rows hiding St
open LamX hiding takes0
/-- what stands at a in H, and stays there -/
def Known (T : List (Addr × Str)) (H : Hp) (a : Addr) : Prop := ∃ u, H a = some u ∧ ((∀ ps, u ≠ .tbl ps) ∨ a ∈ T.map (·.1))
theorem Known.ext {T : List (Addr × Str)} {H H1 : Hp} {a : Addr} (e : ExtN H H1) (t : Tabs T H1) (h : Known T H a) : Known T H1 a := by
  obtain ⟨u, h1, h2 | h2⟩ := h
  · exact ⟨u, e a u h1 h2, .inl h2⟩
  · obtain ⟨p, hp, rfl⟩ := List.mem_map.mp h2
    obtain ⟨ps, q, _⟩ := t p hp
    exact ⟨_, q, .inr h2⟩
theorem StoOk.known {K : Zx} {β : Bx} {H : Hp} {st : Sto} (S : StoOk K β H st) {a : Addr} (h : a ∈ β.lo) : Known (tabsOf K st) H a := by
  obtain ⟨n, hn⟩ := List.mem_iff_getElem?.mp h
  obtain ⟨o, ho, r⟩ := S.get hn
  cases o with
  | tab d q =>
    obtain ⟨h1, ps, h2, _⟩ := r
    exact ⟨_, h2, .inr (List.mem_map.mpr ⟨_, tabsOf_mem ho, h1.symm⟩)⟩
  | lst ds => obtain ⟨xs, h, _⟩ := r; exact ⟨_, h, .inl fun _ z => nomatch z⟩
  | dK kvs => obtain ⟨vs, h, _⟩ := r; exact ⟨_, h, .inl fun _ z => nomatch z⟩
  | dN kvs => obtain ⟨es, h, _⟩ := r; exact ⟨_, h, .inl fun _ z => by unfold dictN at z; cases z⟩
  | ins c fs => obtain ⟨C, dx, vs, _, h, _⟩ := r; exact ⟨_, h, .inl fun _ z => nomatch z⟩
  | fN kvs => obtain ⟨o, es, h, _⟩ := r; exact ⟨_, h, .inl fun _ z => nomatch z⟩
/-- the texts of some lambdas -/
inductive LamsE (X : Cx) : List Expr → List LamI → Prop where
  | nil : LamsE X [] []
  | cons {L : LamI} {pos : Pos} {es : List Expr} {Ls : List LamI} : DflE X L.params L.dvs → LamT X.N X.env.scope L.scope → starEach (.Lambda L.params L.body L.scope pos :: es) X.env = (false, eval (.Lambda L.params L.body L.scope pos) X.env) :: starEach es X.env → LamsE X es Ls → LamsE X (.Lambda L.params L.body L.scope pos :: es) (L :: Ls)
def tLams (X : Cx) (T : List (Addr × Str)) (Ls : List LamI) : TA := fun _ H Q => Tabs T H ∧ ∀ (fs : List Addr) (H1 : Hp), ExtN H H1 → Tabs T H1 → fs.length = Ls.length → (∀ (k : Nat) (f : Addr) (L : LamI), fs[k]? = some f → Ls[k]? = some L → ¬ Known T H f ∧ L.at X H1 f) → Q (fs.map V.ref) H1
theorem LamI.extN {X : Cx} {H H1 : Hp} {f : Addr} {L : LamI} (e : ExtN H H1) (h : L.at X H f) : L.at X H1 f := by
  obtain ⟨c', dV, h1, h2, h3⟩ := h
  refine ⟨c', dV, e _ _ h1 lamH_tbl, e _ _ h2 codeO_ne, ?_⟩
  rcases h3 with h3 | ⟨t, i, e1, e2, e3⟩
  · exact .inl h3
  · exact .inr ⟨t, i, e1, e2, e _ _ e3 fun _ z => nomatch z⟩
theorem pa_lams {X : Cx} {T : List (Addr × Str)} {c P : Addr} (TB : TabB X.base X.mg c P) (hcode : X.env.code = .ref c) (hm : (P, X.env.qual ++ "<lambda>") ∈ T) (hu : ∀ p ∈ T, p.1 = P → p.2 = X.env.qual ++ "<lambda>") {es : List Expr} {Ls : List LamI} (h : LamsE X es Ls) : PA X es (tLams X T Ls) := by
  induction h with
  | nil => exact PAmono pa_nil fun σ H Q ⟨hT, h⟩ => h [] H (ExtN.refl H) hT rfl fun k f L e _ => nomatch e
  | @cons L pos es Ls hd ht hs _ ih =>
    refine PAmono (pa_cons (pe_lamH TB hcode hm hu (fun ok y hy e => ht.has ok y hy e) hd) ih hs) fun σ H Q ⟨hT, h⟩ => ⟨hT, fun f c' dV H1 e1 t1 n1 l1 o1 d1 => ⟨t1, fun fs H2 e2 t2 hl hall => h (f :: fs) H2 (e1.trans e2) t2 (congrArg Nat.succ hl) fun k f' L' hk hL => ?_⟩⟩
    cases k with
    | zero =>
      cases hk
      cases hL
      exact ⟨fun ⟨u, z, _⟩ => (by rw [n1] at z; cases z), LamI.extN e2 ⟨c', dV, l1, o1, d1⟩⟩
    | succ k =>
      obtain ⟨a1, a2⟩ := hall k f' L' hk hL
      exact ⟨fun z => a1 (z.ext e1 t1), a2⟩
/-- the list at slot i holds these lambdas -/
def WorksAt (X : Cx) (i : Nat) (Ls : List LamI) (β : Bx) (σ : L2.St) (H : Hp) : Prop := ∃ (l : Addr) (fs : List Addr), σ[i]? = some (some (.ref l)) ∧ H l = some (.lst (fs.map V.ref)) ∧ l ∉ β.lo ∧ fs.length = Ls.length ∧ ∀ (k : Nat) (f : Addr) (L : LamI), fs[k]? = some f → Ls[k]? = some L → f ∉ β.lo ∧ L.at X H f
theorem WorksAt.ext {X : Cx} {i : Nat} {Ls : List LamI} {β β' : Bx} {σ : L2.St} {H H' : Hp} (e : Ext β H β' H') (h : WorksAt X i Ls β σ H) : WorksAt X i Ls β' σ H' := by
  obtain ⟨l, fs, h1, h2, h3, h4, h5⟩ := h
  refine ⟨l, fs, h1, e.keep _ _ h3 h2 (fun _ z => nomatch z), e.nlo h3 h2 (fun _ z => nomatch z), h4, fun k f L hk hL => ?_⟩
  obtain ⟨a1, a2⟩ := h5 k f L hk hL
  obtain ⟨b1, b2⟩ := LamI.ext e a1 a2
  exact ⟨b2, b1⟩
/-- the lambdas' bodies, one by one -/
inductive LamsOk (X : Cx) (k : Nat) : List LamI → List (G D) → Prop where
  | nil : LamsOk X k [] []
  | cons {L : LamI} {gb : G D} {Ls : List LamI} {gbs : List (G D)} : LamOk X k gb L → LamsOk X k Ls gbs → LamsOk X k (L :: Ls) (gb :: gbs)
theorem LamsOk.at {X : Cx} {k : Nat} {Ls : List LamI} {gbs : List (G D)} (h : LamsOk X k Ls gbs) : ∀ (j : Nat) (L : LamI) (gb : G D), Ls[j]? = some L → gbs[j]? = some gb → LamOk X k gb L := by
  induction h with
  | nil => exact fun j L gb e _ => nomatch e
  | cons h _ ih => exact fun j L gb e1 e2 => match j, e1, e2 with
    | 0, e1, e2 => by cases e1; cases e2; exact h
    | j + 1, e1, e2 => ih j L gb e1 e2
theorem LamsOk.len {X : Cx} {k : Nat} {Ls : List LamI} {gbs : List (G D)} (h : LamsOk X k Ls gbs) : Ls.length = gbs.length := by
  induction h with
  | nil => rfl
  | cons _ _ ih => exact congrArg Nat.succ ih
section
variable {X : Cx} {W : WX}
/-- a reading that knows of the list -/
def tDW (X : Cx) (W : WX) (i : Nat) (Ls : List LamI) (f : G D) : TE := fun σ H Q => ∃ β ρ st, RepEnv (zOf X) β H σ ρ ∧ StoOk (zOf X) β H st ∧ WorksAt X i Ls β σ H ∧ (f ρ st).sat (PostV (zOf X) Q β H) (PostX (zOf X) X.mg (fun c d H' => W c d σ H') β H)
/-- the def called with one of them -/
def gWorks (tw : Exn → Option D) (dz : D) (gbs : List (G D)) (fe : G D) : G D := fun ρ st => (fe ρ st).bind fun d s1 => match d with
  | .int k => if 0 ≤ k then (match gbs[k.toNat]? with
    | some gb => gTell tw dz gb ρ s1
    | none => .bad) else .bad
  | _ => .bad
theorem atI_refs {fs : List Addr} {k : Int} (h0 : 0 ≤ k) {f : Addr} (h : fs[k.toNat]? = some f) : atI (fs.map V.ref) k = some (.ref f) := by
  have e : k = ((k.toNat : Nat) : Int) := (Int.toNat_of_nonneg h0).symm
  rw [e]
  exact atI_nat (by rw [List.getElem?_map, h]; rfl)
theorem dew_call {x a wn : Str} {stg : Stmt} {g : Addr} {fdg : FuncData} {Ng : List Str} {CS : Addr} {R : Addr → Option Addr → Hp → VK → Prop} {z : V} {k i : Nat} {p pw ps pos : Pos} {e : Expr} {fe : G D} {tw : Exn → Option D} {dz : D} {Ls : List LamI} {gbs : List (G D)}
    (F : Fun X.K x x stg g fdg) (hb : L2.Binds X.K fdg [a] []) (Sg : FnScope Ng [a] (defScope stg)) (hNg : Ng[0]? = some a) (hva : Vis (defScope stg) a) (hg : Gl X x) (hm : X.mg x = some (.ref g))
    (hG : ∀ cdv, GivesTo X Ng x (defScope stg) g cdv (defBody stg) a (X.env.qual ++ "<lambda>") (TTwF X.K CS R z)) (TL : TellF X CS R z tw dz) (hr : Room (k + 2) X.A)
    (hN : X.N[i]? = some wn) (hv : Vis X.env.scope wn) (he' : DE X W e fe) (oks : LamsOk X k Ls gbs)
    (hdw : (wn == ("__debug__" : Str)) = false := by decide) (hcw : (wn == ("__classdict__" : Str)) = false := by decide) (hs' : PlainIx e := by exact fun _ _ => rfl)
    (hdb : (x == ("__debug__" : Str)) = false := by decide) (hd : (a == ("__debug__" : Str)) = false := by decide) (hcd : (a == ("__classdict__" : Str)) = false := by decide)
    (he : starEach (.Subscript (.Name wn pw) e ps :: []) X.env = (false, eval (.Subscript (.Name wn pw) e ps) X.env) :: starEach [] X.env := by rfl) (hpl : (backTo pos (starEach [] X.env)).any (·.1) = false := by rfl) :
    PE X (.Call (.Name x p) [.Subscript (.Name wn pw) e ps] [] pos) (tDW X W i Ls (gWorks tw dz gbs fe)) := by
  have ok := oks.at
  have hlen := oks.len
  refine PEmono (pe_callH F hb Sg hNg hva hg hm hG hr (pe_ix ix_seq (pe_var (pos := pw) (i := i) hN hv hdw hcw) he' hs') hdb hd hcd he hpl) fun σ H Q h => ?_
  obtain ⟨β, ρ, st, hρ, hS, hw, h⟩ := h
  have hw0 := hw
  obtain ⟨l, fs, w1, w2, w3, w4, w5⟩ := hw0
  refine ⟨_, w1, ?_⟩
  refine tD_intro hρ hS (Out.sat_bind h) (fun d s1 h1 v β1 H1 e1 S1 r1 => ?_) fun _ _ q => q
  obtain ⟨l', fs', y1, y2, y3, y4, y5⟩ := hw.ext e1
  rw [w1] at y1
  cases y1
  have e2 : H1 l = some (.lst (fs.map V.ref)) := e1.keep _ _ w3 w2 fun _ z => nomatch z
  have e3 : fs' = fs := by
    rw [e2] at y2
    have z : fs.map V.ref = fs'.map V.ref := by
      injection (Option.some.inj y2)
    exact ((List.map_inj_right fun a b e => by cases e; rfl).mp z).symm
  subst e3
  split at h1
  · rename_i k0
    cases r1
    split at h1
    · rename_i h0
      split at h1
      · rename_i gb hgb
        have hj : k0.toNat < Ls.length := by
          rw [hlen]
          exact (List.getElem?_eq_some_iff.mp hgb).1
        have hL : Ls[k0.toNat]? = some Ls[k0.toNat] := List.getElem?_eq_getElem hj
        have hf : fs'[k0.toNat]? = some (fs'[k0.toNat]'(by rw [y4]; exact hj)) := List.getElem?_eq_getElem _
        obtain ⟨a1, a2⟩ := y5 _ _ _ hf hL
        exact .inl ⟨l, fs'.map V.ref, k0, .ref _, rfl, rfl, SqL.of e2, atI_refs h0 hf, _, _, gb, rfl, a2, ok _ _ _ hL hgb, tell_reads TL (hρ.ext e1) S1 e1 h1⟩
      · exact (show False from h1).elim
    · exact (show False from h1).elim
  · exact (show False from h1).elim
end
end DL
namespace DL
open PySem PySem.Spec L2
open PyProof.Rows hiding St
open LamX hiding takes0
section
variable {X : Cx} {W : WX}
/-- statements that know of the list -/
def DSWs (X : Cx) (W : WX) (i : Nat) (Ls : List LamI) (ss : List Stmt) (F : G Fl) : Prop := PSs X ss fun D' σ H => ∃ β ρ st, RepEnv (zOf X) β H σ ρ ∧ StoOk (zOf X) β H st ∧ WorksAt X i Ls β σ H ∧ (F ρ st).sat (PostF (zOf X) D' β H) (PostXS (zOf X) X.mg W β H)
def sWorks (i : Nat) (F : G Fl) : G Fl := fun ρ st => match st[0]? with
  | some (SO.tab d q) => if d = "law" ∧ q = lamQ then F (ρ.set i none) st else .bad
  | _ => .bad
theorem RepEnv.unset {K : Zx} {β : Bx} {H : Hp} {σ : L2.St} {ρ : Env} (h : RepEnv K β H σ ρ) (i : Nat) (v : Option V) : RepEnv K β H (σ.set i v) (ρ.set i none) := by
  refine ⟨by rw [List.length_set, List.length_set]; exact h.1, fun j e q => ?_⟩
  by_cases hj : i = j
  · subst hj
    exfalso
    rw [List.getElem?_set] at q
    split at q
    · split at q <;> cases q
    · rename_i z
      exact z rfl
  · rw [List.getElem?_set_ne hj] at q
    obtain ⟨w, h1, h2⟩ := h.2 j e q
    exact ⟨w, by rw [List.getElem?_set_ne hj]; exact h1, h2⟩
theorem dss_works {i : Nat} {wn : Str} {c P : Addr} {p lp pos : Pos} {les : List Expr} {Ls : List LamI} {rest : List Stmt} {F : G Fl} (TB : TabB X.base X.mg c P) (hcode : X.env.code = .ref c) (hP : tabAddr X.K "law" = P) (hq : X.env.qual = lawQ)
    (hN : X.N.Nodup) (hi : X.N[i]? = some wn) (hx : Loc X.env.scope wn) (hL : LamsE X les Ls) (h1000 : Ls.length ≤ 1000) (hr : DSWs X W i Ls rest F) (hs : swapsWith (.List les lp) (some (.Name wn p)) pos.line X.env = pure false := by rfl)
    (hf : X.fn wn = true ∨ X.env.scope.names.lookup wn = some .local := by first | exact .inl rfl | exact .inr rfl | assumption) : DSs X W (.Assign [.Name wn p] (.List les lp) pos :: rest) (sWorks i F) := by
  have eq : X.env.qual ++ ("<lambda>" : Str) = lamQ := by
    rw [hq]
    rfl
  refine ⟨fun pins s σ H D' I h => ?_⟩
  obtain ⟨β, ρ, st, hρ, hS, h⟩ := h
  unfold sWorks at h
  split at h
  · rename_i d' q' h0
    split at h
    · rename_i hq
      obtain ⟨hd', hq⟩ := hq
      subst hd'
      subst hq
      have hil : i < σ.length := by
        rw [I.len]
        exact (List.getElem?_eq_some_iff.mp hi).1
      have hmem : ((P : Addr), X.env.qual ++ ("<lambda>" : Str)) ∈ tabsOf (zOf X) st := by
        rw [← hP, eq]
        exact tabsOf_mem h0
      have huq : ∀ p ∈ tabsOf (zOf X) st, p.1 = P → p.2 = X.env.qual ++ ("<lambda>" : Str) := fun p hp e => by
        rw [eq]
        exact hS.tabU h0 p hp (e.trans hP.symm)
      refine (pss_cons (ps_set hN hi hx (pe_lst (pos := lp) (pa_lams TB hcode hmem huq hL)) hs hf) hr).run pins s σ H D' I ?_
      refine ⟨hS.tabs, fun fs H1 e1 t1 hlen hall => ⟨?_, fun l hl => ?_⟩⟩
      · rw [List.length_map, hlen]
        exact le1000 h1000
      · have ex := ext_lam (β := β) e1
        have S1 := hS.lam e1 t1
        have ex2 : Ext β H1 β (upd H1 l (.lst (fs.map V.ref))) := Ext.new hl
        have nlo : ∀ {a : Addr}, ¬ Known (tabsOf (zOf X) st) H a → a ∉ β.lo := fun n z => n (hS.known z)
        have nl : l ∉ β.lo := (S1.nmem hl).1
        refine ⟨β, ρ.set i none, st, ((hρ.ext ex).ext ex2).unset i _, S1.fresh hl, ⟨l, fs, List.getElem?_set_self hil, upd_same, nl, hlen, fun k f L hk hL' => ?_⟩, ?_⟩
        · obtain ⟨a1, a2⟩ := hall k f L hk hL'
          exact ⟨nlo a1, (LamI.ext ex2 (nlo a1) a2).1⟩
        · refine h.mono (fun fl s' hp => ?_) fun y s' hp => ?_
          · have e0 := ex.trans ex2
            cases fl with
            | nx ρ => exact fun σ' β' H' e' => hp σ' β' H' (e0.trans e')
            | rt d => exact fun v β' H' e' => hp v β' H' (e0.trans e')
            | bk ρ => exact fun σ' β' H' e' => hp σ' β' H' (e0.trans e')
            | ct ρ => exact fun σ' β' H' e' => hp σ' β' H' (e0.trans e')
          · exact fun cls dd σ' β' H' e' => hp cls dd σ' β' H' ((ex.trans ex2).trans e')
    · exact h.elim
  · exact h.elim
/-- return c op b, c knowing of the list -/
theorem dsw_ret {i : Nat} {Ls : List LamI} {c b : Expr} {op : CmpOp} {r : R2} {m : D → D → Sto → Option D} {f g : G D} {cpos pos : Pos} (ho : OpR X (compareOp op) r) (hm : OpD (zOf X) r m) (ha : PE X c (tDW X W i Ls f)) (hb : DE X W b g) (hb' : behindInMarks op b = false := by rfl) :
    DSWs X W i Ls [.Return (some (.Compare c [op] [b] cpos)) pos] (sRet (gOp m f g)) := by
  refine PSsmono (pss_one (ps_ret (pe_cmpR (pos := cpos) ho ha hb hb'))) fun D' σ H h => ?_
  obtain ⟨β, ρ, st, hρ, hS, hw, h⟩ := h
  unfold sRet gOp at h
  have h := Out.sat_bind (Out.sat_bind h)
  refine ⟨β, ρ, st, hρ, hS, hw, h.mono (fun d s1 h1 v β1 H1 e1 S1 r1 => ?_) fun y s1 h1 cls dd β' H' e' S' xr => h1 cls dd σ β' H' e' S' xr⟩
  refine tD_intro (hρ.ext e1) S1 (Out.sat_bind h1) (fun d2 s2 h2 v2 β2 H2 e2 S2 r2 => ?_) fun y s2 h2 cls dd β' H' e' S' xr => h2 cls dd σ β' H' (e1.trans e') S' xr
  obtain ⟨d3, q, p⟩ := oout_sat h2
  exact hm β2 H2 s2 v v2 d d2 d3 D'.rt (Rep.ext e2 _ _ r1) r2 S2 q fun w' H' s' r' => p w' β2 H' ((e1.trans e2).trans (Ext.same s')) (S2.same s') r'
end
end DL

set_option Elab.async false
set_option linter.all false
set_option maxRecDepth 100000
set_option maxHeartbeats 2000000
/-! # plain = set(..); for x in found: if x not in plain: return x; return None -/
namespace DL
open PySem PySem.Spec L2
open PyProof.Rows hiding St
/-- the set but for its tuples -/
structure SN0 (P : Program) (w : World) (h : Heap) (a : Addr) (L : NL) : Prop where
  ex : ∃ (es : Array (Int × Value)) (ep : Nat) (t : SetTable), (∃ o, h.get? a = some o ∧ o.ExactSet ∧ o.data = .set es ep t) ∧ es.toList = nrows w L ∧ TabOk t (L.map fun p => nhash w p.2) ∧ t.mask = 7 ∧ (L.map (·.2)).Nodup ∧ t.plain = true ∧
    (w.params.followText "set-order" = true ∨ t.led = true) ∧ L.length ≤ 4
def SNO (P : Program) (w : World) (a : Addr) (L : NL) : HO := .ext fun h => SN0 P w h a L
theorem SN.n0 {P : Program} {w : World} {h : Heap} {a : Addr} {L : NL} {es : Array (Int × Value)} {ep : Nat} {t : SetTable} (R : SN P w h a L es ep t) : SN0 P w h a L := ⟨es, ep, t, R.ob, R.rows, R.tab, R.m7, R.nd, R.plain, R.led, R.few⟩
theorem SN0.full {P : Program} {w : World} {h : Heap} {a : Addr} {L : NL} (R : SN0 P w h a L) (ht : ∀ p ∈ L, IsN P w h p.2 p.1) : ∃ es ep t, SN P w h a L es ep t := by
  obtain ⟨es, ep, t, h1, h2, h3, h4, h5, h6, h7, h8⟩ := R.ex
  exact ⟨es, ep, t, h1, h2, h3, h4, h5, ht, h6, h7, h8⟩
theorem sno_new {P : Program} {w : World} {H : Hp} {h : Heap} {a : Addr} {L : NL} (R : SN0 P w h a L) : ObjOk P w H h a (SNO P w a L) := by
  have ⟨es, ep, t, ⟨o, ho, r⟩, q⟩ := R.ex
  refine ⟨R, ⟨o, ho⟩, fun h1 h2 p k => ?_⟩
  have ⟨es', ep', t', ⟨o', ho', r'⟩, q'⟩ := SN0.ex p
  exact ⟨es', ep', t', ⟨o', k o' ho', r'⟩, q'⟩
/-- y is the key k, good for such a set -/
def KeyN (X : Cx) (H : Hp) (y : V) (k : NestedKey) : Prop := KeyIsV X H y k ∧ k.depth ≤ 8 ∧ noTxt k = true
theorem vrefs : ∀ {ks : NL} {us : List Value}, Vals (ks.map fun p => V.ref p.1) us → us = ks.map fun p => Value.ref p.1
  | [], _, .nil => rfl
  | p :: ks, _, .cons r t => by
    cases r
    rw [vrefs t]
    rfl
section
variable {X : Cx}
theorem Inv.isN {pins : List (Addr × Obj)} {σ : L2.St} {H : Hp} {s : Shared} {b : Addr} {k : NestedKey} (I : Inv X pins σ H s) (h : KeyN X H (.ref b) k) : IsN X.prog X.w s.heap k b := ⟨⟨h.1 pins σ s _ I rfl, h.2.1⟩, h.2.2⟩
def rSetN (X : Cx) : List V → Hp → VK → Prop := fun xs H Q => ∃ (l : Addr) (ks : NL), xs = [V.ref l] ∧ SqT X.K H l (ks.map fun p => V.ref p.1) ∧ (∀ p ∈ ks, KeyN X H (.ref p.1) p.2) ∧ ks.length ≤ 4 ∧
  ∀ a L, H a = none → Has ks ks.length L → Q (.ref a) (upd H a (SNO X.prog X.w a L))
theorem cr_setN (hc : X.calm = true) (hu : X.A.units + 12 < cLine) : CallR X (.type "set") (rSetN X) := by
  intro pins s σ H xs us Q I r h
  obtain ⟨l, ks, rfl, hl, hk, hf, q⟩ := h
  rw [Vals.ref1 r]
  obtain ⟨its, rv, pl, hz⟩ := I.tuple hl
  have hn : H s.heap.objs.size = none := I.hok.fresh (Nat.le_refl _)
  refine call_set_nest (P := X.prog) (w := X.w) ks (I.ok.hd hc) (show s.heap.IsTuple l its.toArray from pl) (by simpa using vrefs rv) (fun p hp => Inv.isN I (hk p hp)) hf hu fun h' tk L es ep t R g k => ?_
  exact ⟨.ref s.heap.objs.size, upd H s.heap.objs.size (SNO X.prog X.w s.heap.objs.size L), I.laid (t' := tk) k (Nat.le_refl _) (sno_new R.n0), rfl, q _ L hn g⟩
def rNotN (X : Cx) : V → V → Hp → VK → Prop := fun x y H Q => ∃ (b a : Addr) (k : NestedKey) (L : NL), x = V.ref b ∧ y = V.ref a ∧ H a = some (SNO X.prog X.w a L) ∧ (∀ p ∈ L, KeyN X H (.ref p.1) p.2) ∧ KeyN X H (.ref b) k ∧ Q (.bl (!decide (k ∈ L.map (·.2)))) H
theorem or_notN (hu : X.A.units + 12 < cLine) : OpR X (compareOp .NotIn) (rNotN X) := by
  intro pins s σ H x y v u Q I rx ry h
  obtain ⟨b, a, k, L, rfl, rfl, ha, hL, hk, q⟩ := h
  cases rx
  cases ry
  have R0 : SN0 X.prog X.w s.heap a L := (I.hok a _ ha).1
  obtain ⟨es, ep, t, R⟩ := R0.full fun p hp => Inv.isN I (hL p hp)
  exact notin_sn R (Inv.isN I hk) hu fun tk => ⟨.bl _, H, I.kept (t' := tk) fun _ _ e => e, rfl, q⟩
end
/-- a key of such a set -/
def keyZ (d : D) : Option NestedKey := match keyT d with
  | some k => if noTxt k = true then some k else none
  | none => none
def keysZ : List D → Option (List NestedKey)
  | [] => some []
  | d :: ds => match keyZ d, keysZ ds with
    | some k, some ks => some (k :: ks)
    | _, _ => none
/-- the first of xs that isn't among kk -/
def firstN (kk : List NestedKey) : List D → Option D
  | [] => some .non
  | x :: xs => match keyZ x with
    | some k => if k ∈ kk then firstN kk xs else some x
    | none => none
def sStrange (io : Nat) (fs : G (List D)) : G Fl := fun ρ st => (fs ρ st).bind fun ds s1 => match ds, ρ[io]? with
  | [.tup ks], some (some (.tup xs)) => if ks.length ≤ 4 then (match keysZ ks with
    | some kk => (match firstN kk xs with
      | some d => .ok (.rt d) s1
      | none => .bad)
    | none => .bad) else .bad
  | _, _ => .bad
section
variable {X : Cx} {β : Bx} {H : Hp}
theorem keyZ_some {d : D} {k : NestedKey} (h : keyZ d = some k) : ∃ l, d = .tup l ∧ keyD d = some k ∧ k.depth ≤ 8 ∧ noTxt k = true := by
  unfold keyZ at h
  split at h
  · rename_i k' hk
    split at h
    · rename_i hn
      cases h
      obtain ⟨l, e, q1, q2⟩ := keyT_some hk
      exact ⟨l, e, q1, q2, hn⟩
    · cases h
  · cases h
theorem keyN_of {v : V} {d : D} {k : NestedKey} (r : Rep (zOf X) β H v d) (h : keyZ d = some k) : KeyN X H v k := by
  obtain ⟨l, rfl, h1, h2, h3⟩ := keyZ_some h
  exact ⟨fun pins σ s u I ru => rep_key I _ v u k r ru h1, h2, h3⟩
theorem ref_of {v : V} {d : D} {k : NestedKey} (r : Rep (zOf X) β H v d) (h : keyZ d = some k) : ∃ b, v = .ref b := by
  obtain ⟨l, rfl, h1, h2, h3⟩ := keyZ_some h
  cases r
  exact ⟨_, rfl⟩
/-- the members as addresses and keys -/
theorem nl_of : ∀ {vs : List V} {ds : List D} {kk : List NestedKey}, Reps (zOf X) β H vs ds → keysZ ds = some kk → ∃ ks : NL, vs = ks.map (fun p => V.ref p.1) ∧ ks.map (·.2) = kk ∧ ks.length = ds.length ∧ ∀ p ∈ ks, ∃ d ∈ ds, Rep (zOf X) β H (.ref p.1) d ∧ keyZ d = some p.2
  | _, [], kk, r, h => by
    cases r
    cases h
    exact ⟨[], rfl, rfl, rfl, fun p hp => by cases hp⟩
  | _, d :: ds, kk, r, h => by
    cases r with
    | @cons v _ vs _ r1 r2 =>
      unfold keysZ at h
      split at h
      · rename_i k ks h1 h2
        cases h
        obtain ⟨ks', e1, e2, e3, e4⟩ := nl_of r2 h2
        obtain ⟨b, rfl⟩ := ref_of r1 h1
        refine ⟨(b, k) :: ks', by rw [e1]; rfl, by rw [List.map_cons, e2], by rw [List.length_cons, e3]; rfl, fun p hp => ?_⟩
        rcases List.mem_cons.mp hp with rfl | hp
        · exact ⟨d, List.mem_cons_self, r1, h1⟩
        · obtain ⟨d', a1, a2⟩ := e4 p hp
          exact ⟨d', List.mem_cons_of_mem _ a1, a2⟩
      · cases h
end
theorem hu12_of {X : Cx} {k : Nat} (hr : Room k X.A) : X.A.units + 12 < cLine := by
  have := hu65 hr
  omega
section
variable {X : Cx} {W : WX} {β : Bx} {H : Hp}
theorem dss_strange {ip io ix cn : Nat} {pn on xn : Str} {e : Expr} {fs : G (List D)} {p1 p2 p3 p4 p5 p6 p7 p8 p9 p10 p11 p12 p13 p14 p15 : Pos}
    (hp : PassesOwn (model X.prog X.w) X.A X.env X.xe) (hc : X.calm = true) (hu : X.A.units + 12 < cLine) (hN : X.N.Nodup) (hg : Gl X "set") (hm : X.mg "set" = none) (ha : DA X W [e] fs)
    (hip : X.N[ip]? = some pn) (hio : X.N[io]? = some on) (hix : X.N[ix]? = some xn) (lp : Loc X.env.scope pn) (lx : Loc X.env.scope xn) (vp : Vis X.env.scope pn) (vo : Vis X.env.scope on) (vx : Vis X.env.scope xn)
    (n1 : ip ≠ io) (n2 : ip ≠ ix)
    (d1 : (pn == ("__debug__" : Str)) = false := by decide) (d2 : (pn == ("__classdict__" : Str)) = false := by decide) (d3 : (on == ("__debug__" : Str)) = false := by decide) (d4 : (on == ("__classdict__" : Str)) = false := by decide) (d5 : (xn == ("__debug__" : Str)) = false := by decide) (d6 : (xn == ("__classdict__" : Str)) = false := by decide)
    (hsE : starEach [e] X.env = (false, eval e X.env) :: starEach [] X.env := by rfl) (hpl : (backTo p2 (starEach [] X.env)).any (·.1) = false := by rfl) (hsw : swapsWith (.Call (.Name "set" p1) [e] [] p2) (some (.Name pn p3)) p4.line X.env = pure false := by rfl)
    (hfp : X.fn pn = true ∨ X.env.scope.names.lookup pn = some .local := by first | exact .inl rfl | exact .inr rfl | assumption) (hfx : X.fn xn = true ∨ X.env.scope.names.lookup xn = some .local := by first | exact .inl rfl | exact .inr rfl | assumption) :
    DSs X W [.Assign [.Name pn p3] (.Call (.Name "set" p1) [e] [] p2) p4, .For (.Name xn p5) (.Name on p6) [.If (.Compare (.Name xn p7) [.NotIn] [.Name pn p8] p9) [.Return (some (.Name xn p10)) p11] [] p12] [] p13, .Return (some (.Constant .none cn p14)) p15] (sStrange io fs) := by
  have hset := pe_callTy (X := X) (x := "set") (T := "set") (p := p1) (pos := p2) (cr_setN hc hu) hg hm (by kernel_rfl) ha (by decide) (by decide) hsE hpl
  have hfor := ps_for (X := X) (pos := p13) hp hc (di_seq (X := X) (W := W) (tg := .Name xn p5) (de_var (pos := p6) io hio vo d3 d4)) (pg_name (pos := p5) hN hix lx hfx)
    (pss_one (ps_if (pos := p12) (pt_cmpR (pos := p9) (or_notN hu) (pe_var (pos := p7) hix vx d5 d6) (pe_var (pos := p8) hip vp d1 d2) rfl) (pss_one (ps_ret (pos := p11) (pe_var (pos := p10) hix vx d5 d6))) pss_nil))
  have hret : PS X (.Return (some (.Constant .none cn p14)) p15) (tRet (tC .non)) := ps_ret pe_non
  refine ⟨fun pins s σ H D' I h => ?_⟩
  have hil : ip < σ.length := by
    rw [I.len]
    exact (List.getElem?_eq_some_iff.mp hip).1
  have hixl : ix < σ.length := by
    rw [I.len]
    exact (List.getElem?_eq_some_iff.mp hix).1
  refine (pss_cons (ps_set (pos := p4) hN hip lp hset hsw hfp) (pss_cons hfor (pss_one hret))).run pins s σ H D' I ?_
  obtain ⟨β, ρ, st, hρ, hS, h⟩ := h
  refine tDA_intro hρ hS (Out.sat_bind h) (fun ds s1 h1 vs β1 H1 e1 S1 r1 => ?_) fun _ _ q => xs_x q
  split at h1
  · rename_i ks xs hxs
    split at h1
    · rename_i h4
      split at h1
      · rename_i kk hkk
        split at h1
        · rename_i d hd
          obtain ⟨v, rfl, rk⟩ := r1.one
          cases rk with
          | tup g1 g2 g3 =>
            obtain ⟨NLs, eN, eK, eL, hN2⟩ := nl_of g2 hkk
            refine ⟨_, NLs, rfl, eN ▸ g1, fun p hp => ?_, by omega, fun a L hna hHas => ?_⟩
            · obtain ⟨d0, _, r0, k0⟩ := hN2 p hp
              exact keyN_of r0 k0
            -- the set stands
            have ex2 : Ext β1 H1 β1 (upd H1 a (SNO X.prog X.w a L)) := Ext.new hna
            have hρ2 : RepEnv (zOf X) β1 (upd H1 a (SNO X.prog X.w a L)) (σ.set ip (some (.ref a))) (ρ.set ip none) := ((hρ.ext e1).ext ex2).unset ip _
            obtain ⟨vo', hvo, ro⟩ := (hρ2.2 io (.tup xs) (by rw [List.getElem?_set_ne n1]; exact hxs))
            have memL : ∀ k, k ∈ L.map (·.2) ↔ k ∈ kk := fun k => by
              rw [← eK]
              exact hHas.mem k
            have keyL : ∀ {β' : Bx} {H' : Hp}, Ext β1 (upd H1 a (SNO X.prog X.w a L)) β' H' → ∀ p ∈ L, KeyN X H' (.ref p.1) p.2 := fun ee p hp => by
              obtain ⟨d0, _, r0, k0⟩ := hN2 p (List.mem_of_mem_take (hHas.sub p hp))
              exact keyN_of (Rep.ext (ex2.trans ee) _ _ r0) k0
            refine ⟨β1, ρ.set ip none, s1, hρ2, S1.fresh hna, ?_⟩
            have hseq : gSeq (gVar io) (ρ.set ip none) s1 = .ok xs s1 := by
              have hv : gVar io (ρ.set ip none) s1 = .ok (.tup xs) s1 := by
                unfold gVar
                rw [List.getElem?_set_ne n1, hxs]
              unfold gSeq
              rw [hv]
              rfl
            rw [hseq]
            intro J β2 H2 e2 S2 it hl
            let Iv : Nat → L2.St → Hp → Prop := fun i σ' H' => i ≤ xs.length ∧ σ'[ip]? = some (some (.ref a)) ∧ ix < σ'.length ∧ firstN kk (xs.drop i) = some d ∧ ∃ β' : Bx, Ext β2 H2 β' H' ∧ StoOk (zOf X) β' H' s1
            refine ⟨fun i m σ' H' => m = xs.length - i ∧ Iv i σ' H', ⟨xs.length, by simp, Nat.zero_le _, List.getElem?_set_self hil, by rw [List.length_set]; exact hixl, by simpa using hd, β2, Ext.refl _ _, S2⟩, ?_⟩
            rintro i m σ' H' ⟨rfl, hi, hsp, hxl, hfd, β', ex, S'⟩
            by_cases hlt : i < xs.length
            · refine .inr ⟨it.go _ _ i ex.mv hlt, fun σ H => Iv (i + 1) σ H, fun σ2 H2 hq => ⟨xs.length - (i + 1), by omega, rfl, hq⟩, fun x H3 hy => ?_⟩
              have hdx : xs[i]? = some xs[i] := List.getElem?_eq_getElem hlt
              obtain ⟨sm, rx⟩ := it.yld _ _ i x H3 xs[i] ex.mv hdx hy
              rw [List.drop_eq_getElem_cons hlt] at hfd
              unfold firstN at hfd
              split at hfd
              · rename_i k hk
                have exF : Ext β1 (upd H1 a (SNO X.prog X.w a L)) β' H3 := (e2.trans ex).trans (Ext.same sm)
                obtain ⟨b, rfl⟩ := ref_of rx hk
                refine ⟨.ref b, List.getElem?_set_self hxl, .ref a, by rw [List.getElem?_set_ne (Ne.symm n2)]; exact hsp, ?_⟩
                refine ⟨b, a, k, L, rfl, rfl, ?_, keyL exF, keyN_of rx hk, ?_⟩
                · exact exF.keep a _ (S1.nmem hna).1 upd_same (fun ps z => by cases z)
                · refine ⟨_, rfl, ?_⟩
                  by_cases hm : k ∈ kk
                  · rw [if_pos hm] at hfd
                    have hd' : decide (k ∈ L.map (·.2)) = true := decide_eq_true ((memL k).mpr hm)
                    rw [hd']
                    exact ⟨hlt, by rw [List.getElem?_set_ne (Ne.symm n2)]; exact hsp, by rw [List.length_set]; exact hxl, hfd, β', ex.trans (Ext.same sm), S'.same sm⟩
                  · rw [if_neg hm] at hfd
                    cases hfd
                    have hd' : decide (k ∈ L.map (·.2)) = false := decide_eq_false fun z => hm ((memL k).mp z)
                    rw [hd']
                    refine ⟨.ref b, List.getElem?_set_self hxl, ?_⟩
                    exact h1 _ _ _ ((e1.trans ex2).trans exF) (S'.same sm) rx
              · cases hfd
            · have e0 : i = xs.length := by omega
              subst e0
              refine .inl ⟨it.stop _ _ _ ex.mv (Nat.le_refl _), ?_⟩
              rw [List.drop_length] at hfd
              cases hfd
              exact h1 _ _ _ (((e1.trans ex2).trans e2).trans ex) S' .non
        · exact h1.elim
      · exact h1.elim
    · exact h1.elim
  · exact h1.elim
end
end DL

set_option Elab.async false
set_option linter.all false
set_option maxRecDepth 100000
set_option maxHeartbeats 2000000
/-! # plain = set(..) of many; for x in found: if x not in plain: return x; return None -/
namespace DL
open PySem PySem.Spec L2
open PyProof.Rows hiding St
/-- the set but for its tuples -/
structure SM0 (P : Program) (w : World) (h : Heap) (a : Addr) (L : NL) : Prop where
  ex : ∃ (es : Array (Int × Value)) (ep : Nat) (t : SetTable), (∃ o, h.get? a = some o ∧ o.ExactSet ∧ o.data = .set es ep t) ∧ es.toList = nrows w L ∧ GT t (L.map fun p => nhash w p.2) ∧ (L.map (·.2)).Nodup ∧
    (w.params.followText "set-order" = true ∨ t.led = true) ∧ L.length * 5 < t.mask * 3 ∧ L.length ≤ 256
def SMO (P : Program) (w : World) (a : Addr) (L : NL) : HO := .ext fun h => SM0 P w h a L
theorem SM.n0 {P : Program} {w : World} {h : Heap} {a : Addr} {L : NL} {es : Array (Int × Value)} {ep : Nat} {t : SetTable} (R : SM P w h a L es ep t) : SM0 P w h a L := ⟨es, ep, t, R.ob, R.rows, R.tab, R.nd, R.led, R.room, R.few⟩
theorem SM0.full {P : Program} {w : World} {h : Heap} {a : Addr} {L : NL} (R : SM0 P w h a L) (ht : ∀ p ∈ L, IsK P w h p.2 p.1) : ∃ es ep t, SM P w h a L es ep t := by
  obtain ⟨es, ep, t, h1, h2, h3, h4, h5, h6, h7⟩ := R.ex
  exact ⟨es, ep, t, h1, h2, h3, h4, ht, h5, h6, h7⟩
theorem smo_new {P : Program} {w : World} {H : Hp} {h : Heap} {a : Addr} {L : NL} (R : SM0 P w h a L) : ObjOk P w H h a (SMO P w a L) := by
  have ⟨es, ep, t, ⟨o, ho, r⟩, q⟩ := R.ex
  refine ⟨R, ⟨o, ho⟩, fun h1 h2 p k => ?_⟩
  have ⟨es', ep', t', ⟨o', ho', r'⟩, q'⟩ := SM0.ex p
  exact ⟨es', ep', t', ⟨o', k o' ho', r'⟩, q'⟩
/-- y is the key k, good for such a set -/
def KeyM (X : Cx) (H : Hp) (y : V) (k : NestedKey) : Prop := KeyIsV X H y k ∧ k.depth ≤ 8
section
variable {X : Cx}
theorem Inv.isK {pins : List (Addr × Obj)} {σ : L2.St} {H : Hp} {s : Shared} {b : Addr} {k : NestedKey} (I : Inv X pins σ H s) (h : KeyM X H (.ref b) k) : IsK X.prog X.w s.heap k b := ⟨h.1 pins σ s _ I rfl, h.2⟩
def rSetM (X : Cx) : List V → Hp → VK → Prop := fun xs H Q => ∃ (l : Addr) (ks : NL), xs = [V.ref l] ∧ SqT X.K H l (ks.map fun p => V.ref p.1) ∧ (∀ p ∈ ks, KeyM X H (.ref p.1) p.2) ∧ ks.length ≤ 256 ∧
  ∀ a L, H a = none → Has ks ks.length L → (L.map (·.2)).Nodup → Q (.ref a) (upd H a (SMO X.prog X.w a L))
theorem cr_setM (hc : X.calm = true) (hu : X.A.units + 12 < cLine) : CallR X (.type "set") (rSetM X) := by
  intro pins s σ H xs us Q I r h
  obtain ⟨l, ks, rfl, hl, hk, hf, q⟩ := h
  rw [Vals.ref1 r]
  obtain ⟨its, rv, pl, hz⟩ := I.tuple hl
  have hn : H s.heap.objs.size = none := I.hok.fresh (Nat.le_refl _)
  refine call_set_many (P := X.prog) (w := X.w) ks (I.ok.hd hc) (show s.heap.IsTuple l its.toArray from pl) (by simpa using vrefs rv) (fun p hp => Inv.isK I (hk p hp)) hf hu fun h' tk L es ep t R g k => ?_
  exact ⟨.ref s.heap.objs.size, upd H s.heap.objs.size (SMO X.prog X.w s.heap.objs.size L), I.laid (t' := tk) k (Nat.le_refl _) (smo_new R.n0), rfl, q _ L hn g R.nd⟩
def rNotM (X : Cx) : V → V → Hp → VK → Prop := fun x y H Q => ∃ (b a : Addr) (k : NestedKey) (L : NL), x = V.ref b ∧ y = V.ref a ∧ H a = some (SMO X.prog X.w a L) ∧ (∀ p ∈ L, KeyM X H (.ref p.1) p.2) ∧ KeyM X H (.ref b) k ∧ Q (.bl (!decide (k ∈ L.map (·.2)))) H
theorem or_notM (hu : X.A.units + 12 < cLine) : OpR X (compareOp .NotIn) (rNotM X) := by
  intro pins s σ H x y v u Q I rx ry h
  obtain ⟨b, a, k, L, rfl, rfl, ha, hL, hk, q⟩ := h
  cases rx
  cases ry
  have R0 : SM0 X.prog X.w s.heap a L := (I.hok a _ ha).1
  obtain ⟨es, ep, t, R⟩ := R0.full fun p hp => Inv.isK I (hL p hp)
  exact notin_sm R (Inv.isK I hk) hu fun tk => ⟨.bl _, H, I.kept (t' := tk) fun _ _ e => e, rfl, q⟩
end
def keysT : List D → Option (List NestedKey)
  | [] => some []
  | d :: ds => match keyT d, keysT ds with
    | some k, some ks => some (k :: ks)
    | _, _ => none
/-- the first of xs that isn't among kk -/
def firstM (kk : List NestedKey) : List D → Option D
  | [] => some .non
  | x :: xs => match keyT x with
    | some k => if k ∈ kk then firstM kk xs else some x
    | none => none
def sStrangeM (io : Nat) (fs : G (List D)) : G Fl := fun ρ st => (fs ρ st).bind fun ds s1 => match ds, ρ[io]? with
  | [.tup ks], some (some (.tup xs)) => if ks.length ≤ 256 then (match keysT ks with
    | some kk => (match firstM kk xs with
      | some d => .ok (.rt d) s1
      | none => .bad)
    | none => .bad) else .bad
  | _, _ => .bad
section
variable {X : Cx} {β : Bx} {H : Hp}
theorem keyM_of {v : V} {d : D} {k : NestedKey} (r : Rep (zOf X) β H v d) (h : keyT d = some k) : KeyM X H v k := by
  obtain ⟨l, rfl, h1, h2⟩ := keyT_some h
  exact ⟨fun pins σ s u I ru => rep_key I _ v u k r ru h1, h2⟩
theorem refM_of {v : V} {d : D} {k : NestedKey} (r : Rep (zOf X) β H v d) (h : keyT d = some k) : ∃ b, v = .ref b := by
  obtain ⟨l, rfl, h1, h2⟩ := keyT_some h
  cases r
  exact ⟨_, rfl⟩
/-- the members as addresses and keys -/
theorem nlM_of : ∀ {vs : List V} {ds : List D} {kk : List NestedKey}, Reps (zOf X) β H vs ds → keysT ds = some kk → ∃ ks : NL, vs = ks.map (fun p => V.ref p.1) ∧ ks.map (·.2) = kk ∧ ks.length = ds.length ∧ ∀ p ∈ ks, ∃ d ∈ ds, Rep (zOf X) β H (.ref p.1) d ∧ keyT d = some p.2
  | _, [], kk, r, h => by
    cases r
    cases h
    exact ⟨[], rfl, rfl, rfl, fun p hp => by cases hp⟩
  | _, d :: ds, kk, r, h => by
    cases r with
    | @cons v _ vs _ r1 r2 =>
      unfold keysT at h
      split at h
      · rename_i k ks h1 h2
        cases h
        obtain ⟨ks', e1, e2, e3, e4⟩ := nlM_of r2 h2
        obtain ⟨b, rfl⟩ := refM_of r1 h1
        refine ⟨(b, k) :: ks', by rw [e1]; rfl, by rw [List.map_cons, e2], by rw [List.length_cons, e3]; rfl, fun p hp => ?_⟩
        rcases List.mem_cons.mp hp with rfl | hp
        · exact ⟨d, List.mem_cons_self, r1, h1⟩
        · obtain ⟨d', a1, a2⟩ := e4 p hp
          exact ⟨d', List.mem_cons_of_mem _ a1, a2⟩
      · cases h
end
section
variable {X : Cx} {W : WX} {β : Bx} {H : Hp}
theorem dss_strangeM {ip io ix cn : Nat} {pn on xn : Str} {e : Expr} {fs : G (List D)} {p1 p2 p3 p4 p5 p6 p7 p8 p9 p10 p11 p12 p13 p14 p15 : Pos}
    (hp : PassesOwn (model X.prog X.w) X.A X.env X.xe) (hc : X.calm = true) (hu : X.A.units + 12 < cLine) (hN : X.N.Nodup) (hg : Gl X "set") (hm : X.mg "set" = none) (ha : DA X W [e] fs)
    (hip : X.N[ip]? = some pn) (hio : X.N[io]? = some on) (hix : X.N[ix]? = some xn) (lp : Loc X.env.scope pn) (lx : Loc X.env.scope xn) (vp : Vis X.env.scope pn) (vo : Vis X.env.scope on) (vx : Vis X.env.scope xn)
    (n1 : ip ≠ io) (n2 : ip ≠ ix)
    (d1 : (pn == ("__debug__" : Str)) = false := by decide) (d2 : (pn == ("__classdict__" : Str)) = false := by decide) (d3 : (on == ("__debug__" : Str)) = false := by decide) (d4 : (on == ("__classdict__" : Str)) = false := by decide) (d5 : (xn == ("__debug__" : Str)) = false := by decide) (d6 : (xn == ("__classdict__" : Str)) = false := by decide)
    (hsE : starEach [e] X.env = (false, eval e X.env) :: starEach [] X.env := by rfl) (hpl : (backTo p2 (starEach [] X.env)).any (·.1) = false := by rfl) (hsw : swapsWith (.Call (.Name "set" p1) [e] [] p2) (some (.Name pn p3)) p4.line X.env = pure false := by rfl)
    (hfp : X.fn pn = true ∨ X.env.scope.names.lookup pn = some .local := by first | exact .inl rfl | exact .inr rfl | assumption) (hfx : X.fn xn = true ∨ X.env.scope.names.lookup xn = some .local := by first | exact .inl rfl | exact .inr rfl | assumption) :
    DSs X W [.Assign [.Name pn p3] (.Call (.Name "set" p1) [e] [] p2) p4, .For (.Name xn p5) (.Name on p6) [.If (.Compare (.Name xn p7) [.NotIn] [.Name pn p8] p9) [.Return (some (.Name xn p10)) p11] [] p12] [] p13, .Return (some (.Constant .none cn p14)) p15] (sStrangeM io fs) := by
  have hset := pe_callTy (X := X) (x := "set") (T := "set") (p := p1) (pos := p2) (cr_setM hc hu) hg hm (by kernel_rfl) ha (by decide) (by decide) hsE hpl
  have hfor := ps_for (X := X) (pos := p13) hp hc (di_seq (X := X) (W := W) (tg := .Name xn p5) (de_var (pos := p6) io hio vo d3 d4)) (pg_name (pos := p5) hN hix lx hfx)
    (pss_one (ps_if (pos := p12) (pt_cmpR (pos := p9) (or_notM hu) (pe_var (pos := p7) hix vx d5 d6) (pe_var (pos := p8) hip vp d1 d2) rfl) (pss_one (ps_ret (pos := p11) (pe_var (pos := p10) hix vx d5 d6))) pss_nil))
  have hret : PS X (.Return (some (.Constant .none cn p14)) p15) (tRet (tC .non)) := ps_ret pe_non
  refine ⟨fun pins s σ H D' I h => ?_⟩
  have hil : ip < σ.length := by
    rw [I.len]
    exact (List.getElem?_eq_some_iff.mp hip).1
  have hixl : ix < σ.length := by
    rw [I.len]
    exact (List.getElem?_eq_some_iff.mp hix).1
  refine (pss_cons (ps_set (pos := p4) hN hip lp hset hsw hfp) (pss_cons hfor (pss_one hret))).run pins s σ H D' I ?_
  obtain ⟨β, ρ, st, hρ, hS, h⟩ := h
  refine tDA_intro hρ hS (Out.sat_bind h) (fun ds s1 h1 vs β1 H1 e1 S1 r1 => ?_) fun _ _ q => xs_x q
  split at h1
  · rename_i ks xs hxs
    split at h1
    · rename_i h4
      split at h1
      · rename_i kk hkk
        split at h1
        · rename_i d hd
          obtain ⟨v, rfl, rk⟩ := r1.one
          cases rk with
          | tup g1 g2 g3 =>
            obtain ⟨NLs, eN, eK, eL, hN2⟩ := nlM_of g2 hkk
            refine ⟨_, NLs, rfl, eN ▸ g1, fun p hp => ?_, by omega, fun a L hna hHas _ => ?_⟩
            · obtain ⟨d0, _, r0, k0⟩ := hN2 p hp
              exact keyM_of r0 k0
            -- the set stands
            have ex2 : Ext β1 H1 β1 (upd H1 a (SMO X.prog X.w a L)) := Ext.new hna
            have hρ2 : RepEnv (zOf X) β1 (upd H1 a (SMO X.prog X.w a L)) (σ.set ip (some (.ref a))) (ρ.set ip none) := ((hρ.ext e1).ext ex2).unset ip _
            obtain ⟨vo', hvo, ro⟩ := (hρ2.2 io (.tup xs) (by rw [List.getElem?_set_ne n1]; exact hxs))
            have memL : ∀ k, k ∈ L.map (·.2) ↔ k ∈ kk := fun k => by
              rw [← eK]
              exact hHas.mem k
            have keyL : ∀ {β' : Bx} {H' : Hp}, Ext β1 (upd H1 a (SMO X.prog X.w a L)) β' H' → ∀ p ∈ L, KeyM X H' (.ref p.1) p.2 := fun ee p hp => by
              obtain ⟨d0, _, r0, k0⟩ := hN2 p (List.mem_of_mem_take (hHas.sub p hp))
              exact keyM_of (Rep.ext (ex2.trans ee) _ _ r0) k0
            refine ⟨β1, ρ.set ip none, s1, hρ2, S1.fresh hna, ?_⟩
            have hseq : gSeq (gVar io) (ρ.set ip none) s1 = .ok xs s1 := by
              have hv : gVar io (ρ.set ip none) s1 = .ok (.tup xs) s1 := by
                unfold gVar
                rw [List.getElem?_set_ne n1, hxs]
              unfold gSeq
              rw [hv]
              rfl
            rw [hseq]
            intro J β2 H2 e2 S2 it hl
            let Iv : Nat → L2.St → Hp → Prop := fun i σ' H' => i ≤ xs.length ∧ σ'[ip]? = some (some (.ref a)) ∧ ix < σ'.length ∧ firstM kk (xs.drop i) = some d ∧ ∃ β' : Bx, Ext β2 H2 β' H' ∧ StoOk (zOf X) β' H' s1
            refine ⟨fun i m σ' H' => m = xs.length - i ∧ Iv i σ' H', ⟨xs.length, by simp, Nat.zero_le _, List.getElem?_set_self hil, by rw [List.length_set]; exact hixl, by simpa using hd, β2, Ext.refl _ _, S2⟩, ?_⟩
            rintro i m σ' H' ⟨rfl, hi, hsp, hxl, hfd, β', ex, S'⟩
            by_cases hlt : i < xs.length
            · refine .inr ⟨it.go _ _ i ex.mv hlt, fun σ H => Iv (i + 1) σ H, fun σ2 H2 hq => ⟨xs.length - (i + 1), by omega, rfl, hq⟩, fun x H3 hy => ?_⟩
              have hdx : xs[i]? = some xs[i] := List.getElem?_eq_getElem hlt
              obtain ⟨sm, rx⟩ := it.yld _ _ i x H3 xs[i] ex.mv hdx hy
              rw [List.drop_eq_getElem_cons hlt] at hfd
              unfold firstM at hfd
              split at hfd
              · rename_i k hk
                have exF : Ext β1 (upd H1 a (SMO X.prog X.w a L)) β' H3 := (e2.trans ex).trans (Ext.same sm)
                obtain ⟨b, rfl⟩ := refM_of rx hk
                refine ⟨.ref b, List.getElem?_set_self hxl, .ref a, by rw [List.getElem?_set_ne (Ne.symm n2)]; exact hsp, ?_⟩
                refine ⟨b, a, k, L, rfl, rfl, ?_, keyL exF, keyM_of rx hk, ?_⟩
                · exact exF.keep a _ (S1.nmem hna).1 upd_same (fun ps z => by cases z)
                · refine ⟨_, rfl, ?_⟩
                  by_cases hm : k ∈ kk
                  · rw [if_pos hm] at hfd
                    have hd' : decide (k ∈ L.map (·.2)) = true := decide_eq_true ((memL k).mpr hm)
                    rw [hd']
                    exact ⟨hlt, by rw [List.getElem?_set_ne (Ne.symm n2)]; exact hsp, by rw [List.length_set]; exact hxl, hfd, β', ex.trans (Ext.same sm), S'.same sm⟩
                  · rw [if_neg hm] at hfd
                    cases hfd
                    have hd' : decide (k ∈ L.map (·.2)) = false := decide_eq_false fun z => hm ((memL k).mp z)
                    rw [hd']
                    refine ⟨.ref b, List.getElem?_set_self hxl, ?_⟩
                    exact h1 _ _ _ ((e1.trans ex2).trans exF) (S'.same sm) rx
              · cases hfd
            · have e0 : i = xs.length := by omega
              subst e0
              refine .inl ⟨it.stop _ _ _ ex.mv (Nat.le_refl _), ?_⟩
              rw [List.drop_length] at hfd
              cases hfd
              exact h1 _ _ _ (((e1.trans ex2).trans e2).trans ex) S' .non
        · exact h1.elim
      · exact h1.elim
    · exact h1.elim
  · exact h1.elim
end
end DL

set_option Elab.async false
set_option linter.all false
set_option maxRecDepth 100000
set_option maxHeartbeats 2000000
/-! # Comprehensions with two fors: the inner loop, which goes on with a list -/
namespace DL
open PySem PySem.Spec L2
open PyProof.Rows hiding St
theorem hold_in {K : Zx} {β1 β : Bx} {H1 H : Hp} {s1 : Sto} {D' : Addr} (S1 : StoOk K β1 H1 s1) (hD : H1 D' = none) {acc : List V} (ex : Ext (β1.hold D') (upd H1 D' (.lst acc)) β H) : D' ∈ β.pv ∧ D' ∉ β.lo := by
  refine ⟨by rw [ex.pv]; exact List.mem_cons_self, fun z => ?_⟩
  obtain ⟨new, e1, f⟩ := ex.pre
  rw [e1] at z
  rcases List.mem_append.mp z with z | z
  · exact (S1.nmem hD).1 z
  · obtain ⟨ps, q⟩ := f D' z (.lst acc) (by rw [upd_same])
    cases q
theorem lc_dA {K : Zx} {mg : Str → Option Value} {vs : List Nat} {p : Pat} {t : G Bool} {e : G D} {σ : L2.St} {ρ : Env} {items : List D} {J : It} {β1 β0 : Bx} {H1 H0 : Hp} {s1 s0 : Sto} {D' : Addr} {acc0 : List V} {ad0 : List D} {R : Hp → Prop}
    (hsl : ∀ i ∈ p.slots, i ∈ vs) (hl : ad0.length + items.length ≤ sizeLine) (S1 : StoOk K β1 H1 s1) (hD : H1 D' = none)
    (ex0 : Ext (β1.hold D') (upd H1 D' (.lst acc0)) β0 H0) (S0 : StoOk K β0 H0 s0) (hA0 : H0 D' = some (.lst acc0)) (ra0 : Reps K β0 H0 acc0 ad0) (hρ : RepEnv K β0 H0 σ ρ) (it : ItD K β0 H0 J items)
    (fin : (compGo (wipeE ρ vs) p t e items s0).sat (fun ys s2 => ∀ β2 H2 xs, Mv β0 H0 β2 H2 → Ext (β1.hold D') (upd H1 D' (.lst xs)) β2 H2 → StoOk K β2 H2 s2 → H2 D' = some (.lst xs) → Reps K β2 H2 xs (ad0 ++ ys) → ys.length ≤ items.length → R H2) (fun _ _ => False)) :
    ∃ Wi : Nat → Nat → Hp → Prop, (∃ m, Wi 0 m H0) ∧ ∀ i m H, Wi i m H →
      (J.stop i H ∧ R H) ∨ (J.go i H ∧ ∃ Nx : Hp → Prop, (∀ H', Nx H' → ∃ m', m' < m ∧ Wi (i + 1) m' H') ∧ ∀ x H', J.yld i H x H' → p.tg K x (L2.wipe σ vs) H' fun σ2 H2 => L2.wipe σ2 vs = L2.wipe σ vs ∧ tDT K mg WF t σ2 H2 fun b H3 =>
        if b = true then tD K mg WF e σ2 H3 fun y H4 => ∃ acc, H4 D' = some (.lst acc) ∧ acc.length < sizeLine ∧ Nx (upd H4 D' (.lst (acc ++ [y]))) else Nx H3) := by
  let Iv : Nat → Hp → Prop := fun i H => i ≤ items.length ∧ ∃ β st acc ad, Mv β0 H0 β H ∧ Ext (β1.hold D') (upd H1 D' (.lst acc)) β H ∧ StoOk K β H st ∧ H D' = some (.lst acc) ∧ Reps K β H acc (ad0 ++ ad) ∧ ad.length ≤ i ∧
    (compGo (wipeE ρ vs) p t e (items.drop i) st).sat (fun ys s2 => ∀ β2 H2 xs, Mv β0 H0 β2 H2 → Ext (β1.hold D') (upd H1 D' (.lst xs)) β2 H2 → StoOk K β2 H2 s2 → H2 D' = some (.lst xs) → Reps K β2 H2 xs (ad0 ++ (ad ++ ys)) → (ad ++ ys).length ≤ items.length → R H2) (fun _ _ => False)
  refine ⟨fun i m H => m = items.length - i ∧ Iv i H, ⟨items.length, by simp, Nat.zero_le _, β0, s0, acc0, [], (Ext.refl β0 H0).mv, ex0, S0, hA0, by simpa using ra0, Nat.le_refl _, by simpa using fin⟩, ?_⟩
  rintro i m H ⟨rfl, hi, β, st, acc, ad, mv, ex, S, hA, ra, la, go⟩
  by_cases hlt : i < items.length
  · refine .inr ⟨it.go _ H i mv hlt, fun H' => Iv (i + 1) H', fun H' hq => ⟨items.length - (i + 1), by omega, rfl, hq⟩, fun x H' hy => ?_⟩
    have hd : items[i]? = some items[i] := List.getElem?_eq_getElem hlt
    obtain ⟨sm, rx⟩ := it.yld _ H i x H' items[i] mv hd hy
    have hdrop : items.drop i = items[i] :: items.drop (i + 1) := List.drop_eq_getElem_cons hlt
    rw [hdrop] at go
    simp only [compGo] at go
    split at go
    · exact go.elim
    · rename_i ρ1 hset
      have ex2 : Ext (β1.hold D') (upd H1 D' (.lst acc)) β H' := ex.trans (Ext.same sm)
      have mv1 : Mv β0 H0 β H' := mv.trans (Ext.same (β := β) sm).mv
      have hρ' : RepEnv K β H' (L2.wipe σ vs) (wipeE ρ vs) := RepEnv.wipe ⟨hρ.1, fun j d q => by
        obtain ⟨v, h1, h2⟩ := hρ.2 j d q
        exact ⟨v, h1, Rep.move mv1 _ _ h2⟩⟩ vs
      refine pat_ok p x items[i] _ _ ρ1 _ rx hset hρ' fun σ2 hσ2 k2 l2 => ⟨?_, ?_⟩
      · refine (wipe_same l2 fun j hj => k2 j fun z => hj (hsl j z)).trans ?_
        refine wipe_same (by rw [wipe_length]) fun j hj => ?_
        rw [wipe_get, if_neg hj]
      · have S' := S.same sm
        have hA' : H' D' = some (.lst acc) := sm _ _ hA
        refine ⟨β, ρ1, st, hσ2, S', (Out.nox_sat (Out.sat_bind go)).mono (E := fun _ _ => False) (fun b s2 hb β3 H3 e3 S3 => ?_) fun _ _ z => z.elim⟩
        have hA3 : H3 D' = some (.lst acc) := e3.keep _ _ (hold_in S1 hD ex).2 hA' fun ps z => by cases z
        have ex3 := ex2.trans e3
        have mv3 : Mv β0 H0 β3 H3 := mv1.trans e3.mv
        have ra3 : Reps K β3 H3 acc (ad0 ++ ad) := Reps.ext ((Ext.same sm).trans e3) _ _ ra
        cases b with
        | false => exact ⟨hlt, β3, s2, acc, ad, mv3, ex3, S3, hA3, ra3, Nat.le_succ_of_le la, hb⟩
        | true =>
          rw [if_pos rfl] at hb
          refine ⟨β3, ρ1, s2, hσ2.ext e3, S3, (Out.nox_sat (Out.sat_bind hb)).mono (E := fun _ _ => False) (fun y s4 hy4 v4 β4 H4 e4 S4 r4 => ?_) fun _ _ z => z.elim⟩
          have hA4 : H4 D' = some (.lst acc) := e4.keep _ _ (hold_in S1 hD ex3).2 hA3 fun ps z => by cases z
          have ex4 := ex3.trans e4
          have mv4 : Mv β0 H0 β4 H4 := mv3.trans e4.mv
          have ra4 : Reps K β4 H4 acc (ad0 ++ ad) := Reps.ext e4 _ _ ra3
          have hal : acc.length ≤ ad0.length + i := by
            rw [ra4.length, List.length_append]
            omega
          refine ⟨acc, hA4, by omega, hlt, β4, s4, acc ++ [v4], ad ++ [y], mv4.trans (Mv.poke (hold_in S1 hD ex4).1 hA4), ?_, S4.poke (hold_in S1 hD ex4).1 (hold_in S1 hD ex4).2 hA4, upd_same, ?_, by rw [List.length_append]; simpa using la, ?_⟩
          · exact Ext.poke hD ex4 hA4
          · rw [← List.append_assoc]
            exact Reps.move (Mv.poke (hold_in S1 hD ex4).1 hA4) _ _ (ra4.append (.cons r4 .nil))
          · refine (Out.sat_bind hy4).mono (fun ys s5 h5 β5 H5 xs m5 e5 S5 hA5 r5 l5 => ?_) fun _ _ z => z
            exact h5 β5 H5 xs m5 e5 S5 hA5 (by simpa using r5) (by simpa using l5)
  · have e0 : i = items.length := by omega
    subst e0
    refine .inl ⟨it.stop _ H _ mv (Nat.le_refl _), ?_⟩
    rw [List.drop_length] at go
    exact go β H acc mv ex S hA (by simpa using ra) (by simp only [List.append_nil]; omega)
end DL

set_option Elab.async false
set_option linter.all false
set_option maxRecDepth 100000
set_option maxHeartbeats 2000000
/-! # Comprehensions with two fors -/
namespace DL
open PySem PySem.Spec L2
open PyProof.Rows hiding St
def compGo2 (ρ : Env) (p : Pat) (t : G Bool) (vs1 : List Nat) (f1 : G (List D)) (p1 : Pat) (t1 : G Bool) (e : G D) : List D → Sto → Out (List D)
  | [], st => .ok [] st
  | d :: ds, st => match Pat.set p d ρ with
    | none => .bad
    | some ρ1 => (t ρ1 st).nox.bind fun b s1 => if b then (f1 ρ1 s1).nox.bind fun items s2 => if items.length ≤ 1000 then (compGo (wipeE ρ1 vs1) p1 t1 e items s2).bind fun ys s3 => (compGo2 ρ p t vs1 f1 p1 t1 e ds s3).bind fun zs s4 => .ok (ys ++ zs) s4 else .bad
        else compGo2 ρ p t vs1 f1 p1 t1 e ds s1
def gComp2 (vs : List Nat) (f : G (List D)) (p : Pat) (t : G Bool) (vs1 : List Nat) (f1 : G (List D)) (p1 : Pat) (t1 : G Bool) (e : G D) : G D := fun ρ st => (f ρ st).bind fun items s1 => if items.length ≤ 1000 then (compGo2 (wipeE ρ vs) p t vs1 f1 p1 t1 e items s1).bind fun ys s2 => .ok (.lst ys) s2 else .bad
theorem compGo2_ex {ρ : Env} {p p1 : Pat} {t t1 : G Bool} {e : G D} {vs1 : List Nat} {f1 : G (List D)} {x : Exn} {s : Sto} : ∀ {ds : List D} {st : Sto}, compGo2 ρ p t vs1 f1 p1 t1 e ds st ≠ .exn x s
  | [], st, h => by cases h
  | d :: ds, st, h => by
    simp only [compGo2] at h
    split at h
    · cases h
    · rcases bind_ex h with h | ⟨b, s1, _, h⟩
      · exact nox_ex h
      · split at h
        · rcases bind_ex h with h | ⟨its, s2, _, h⟩
          · exact nox_ex h
          · split at h
            · rcases bind_ex h with h | ⟨ys, s3, _, h⟩
              · exact compGo_ex h
              · rcases bind_ex h with h | ⟨zs, s4, _, h⟩
                · exact compGo2_ex h
                · cases h
            · cases h
        · exact compGo2_ex h
theorem lc2_d {K : Zx} {mg : Str → Option Value} {vs vs1 : List Nat} {p p1 : Pat} {t t1 : G Bool} {e : G D} {f1 : G (List D)} {σ : L2.St} {ρ : Env} {items : List D} {J : It} {β1 : Bx} {H1 : Hp} {s1 : Sto} {R : Addr → Hp → Prop} (hsl : ∀ i ∈ p.slots, i ∈ vs) (hsl1 : ∀ i ∈ p1.slots, i ∈ vs1) (hl : items.length ≤ 1000)
    (hρ : RepEnv K β1 H1 σ ρ) (S1 : StoOk K β1 H1 s1) (it : ItD K β1 H1 J items) {D' : Addr} (hD : H1 D' = none)
    (fin : (compGo2 (wipeE ρ vs) p t vs1 f1 p1 t1 e items s1).sat (fun ys s2 => ∀ β2 H2 xs, Ext (β1.hold D') (upd H1 D' (.lst xs)) β2 H2 → StoOk K β2 H2 s2 → H2 D' = some (.lst xs) → Reps K β2 H2 xs ys → ys.length ≤ sizeLine → R D' H2) (fun _ _ => False)) :
    ∃ Wi : Nat → Nat → Hp → Prop, (∃ m, Wi 0 m (upd H1 D' (.lst []))) ∧ ∀ i m H, Wi i m H →
      (J.stop i H ∧ R D' H) ∨ (J.go i H ∧ ∃ Nx : Hp → Prop, (∀ H', Nx H' → ∃ m', m' < m ∧ Wi (i + 1) m' H') ∧ ∀ x H', J.yld i H x H' → p.tg K x (L2.wipe σ vs) H' fun σ2 H2 => L2.wipe σ2 vs = L2.wipe σ vs ∧ tDT K mg WF t σ2 H2 fun b H3 =>
        if b = true then tDI K mg WF f1 σ2 H3 fun J1 H4 => ∃ W1 : Nat → Nat → Hp → Prop, (∃ m, W1 0 m H4) ∧ ∀ j k H, W1 j k H →
          (J1.stop j H ∧ Nx H) ∨ (J1.go j H ∧ ∃ Nx1 : Hp → Prop, (∀ H', Nx1 H' → ∃ k', k' < k ∧ W1 (j + 1) k' H') ∧ ∀ x H', J1.yld j H x H' → p1.tg K x (L2.wipe σ2 vs1) H' fun σ3 H5 => L2.wipe σ3 vs1 = L2.wipe σ2 vs1 ∧ tDT K mg WF t1 σ3 H5 fun b H6 =>
            if b = true then tD K mg WF e σ3 H6 fun y H7 => ∃ acc, H7 D' = some (.lst acc) ∧ acc.length < sizeLine ∧ Nx1 (upd H7 D' (.lst (acc ++ [y]))) else Nx1 H6)
        else Nx H3) := by
  let Iv : Nat → Hp → Prop := fun i H => i ≤ items.length ∧ ∃ β st acc ad, Mv β1 H1 β H ∧ Ext (β1.hold D') (upd H1 D' (.lst acc)) β H ∧ StoOk K β H st ∧ H D' = some (.lst acc) ∧ Reps K β H acc ad ∧ ad.length ≤ 1000 * i ∧
    (compGo2 (wipeE ρ vs) p t vs1 f1 p1 t1 e (items.drop i) st).sat (fun ys s2 => ∀ β2 H2 xs, Ext (β1.hold D') (upd H1 D' (.lst xs)) β2 H2 → StoOk K β2 H2 s2 → H2 D' = some (.lst xs) → Reps K β2 H2 xs (ad ++ ys) → (ad ++ ys).length ≤ sizeLine → R D' H2) (fun _ _ => False)
  refine ⟨fun i m H => m = items.length - i ∧ Iv i H, ⟨items.length, by simp, Nat.zero_le _, β1.hold D', s1, [], [], Mv.hold hD, Ext.refl _ _, S1.hold hD, upd_same, .nil, Nat.le_refl _, by simpa using fin⟩, ?_⟩
  rintro i m H ⟨rfl, hi, β, st, acc, ad, mv, ex, S, hA, ra, la, go⟩
  by_cases hlt : i < items.length
  · refine .inr ⟨it.go _ H i mv hlt, fun H' => Iv (i + 1) H', fun H' hq => ⟨items.length - (i + 1), by omega, rfl, hq⟩, fun x H' hy => ?_⟩
    have hd : items[i]? = some items[i] := List.getElem?_eq_getElem hlt
    obtain ⟨sm, rx⟩ := it.yld _ H i x H' items[i] mv hd hy
    have hdrop : items.drop i = items[i] :: items.drop (i + 1) := List.drop_eq_getElem_cons hlt
    rw [hdrop] at go
    simp only [compGo2] at go
    split at go
    · exact go.elim
    · rename_i ρ1 hset
      have ex2 : Ext (β1.hold D') (upd H1 D' (.lst acc)) β H' := ex.trans (Ext.same sm)
      have mv1 : Mv β1 H1 β H' := mv.trans (Ext.same (β := β) sm).mv
      have hρ' : RepEnv K β H' (L2.wipe σ vs) (wipeE ρ vs) := RepEnv.wipe ⟨hρ.1, fun j d q => by
        obtain ⟨v, h1, h2⟩ := hρ.2 j d q
        exact ⟨v, h1, Rep.move mv1 _ _ h2⟩⟩ vs
      refine pat_ok p x items[i] _ _ ρ1 _ rx hset hρ' fun σ2 hσ2 k2 l2 => ⟨?_, ?_⟩
      · refine (wipe_same l2 fun j hj => k2 j fun z => hj (hsl j z)).trans ?_
        refine wipe_same (by rw [wipe_length]) fun j hj => ?_
        rw [wipe_get, if_neg hj]
      · have S' := S.same sm
        have hA' : H' D' = some (.lst acc) := sm _ _ hA
        refine ⟨β, ρ1, st, hσ2, S', (Out.nox_sat (Out.sat_bind go)).mono (E := fun _ _ => False) (fun b s2 hb β3 H3 e3 S3 => ?_) fun _ _ z => z.elim⟩
        have hA3 : H3 D' = some (.lst acc) := e3.keep _ _ (hold_in S1 hD ex).2 hA' fun ps z => by cases z
        have ex3 := ex2.trans e3
        have mv3 : Mv β1 H1 β3 H3 := mv1.trans e3.mv
        have ra3 : Reps K β3 H3 acc ad := Reps.ext ((Ext.same sm).trans e3) _ _ ra
        cases b with
        | false => exact ⟨hlt, β3, s2, acc, ad, mv3, ex3, S3, hA3, ra3, by omega, hb⟩
        | true =>
          rw [if_pos rfl] at hb
          refine ⟨β3, ρ1, s2, hσ2.ext e3, S3, (Out.nox_sat (Out.sat_bind hb)).mono (E := fun _ _ => False) (fun its s4 hy4 J1 β4 H4 e4 S4 it4 hl4 => ?_) fun _ _ z => z.elim⟩
          have hA4 : H4 D' = some (.lst acc) := e4.keep _ _ (hold_in S1 hD ex3).2 hA3 fun ps z => by cases z
          have ex4 := ex3.trans e4
          have mv4 : Mv β1 H1 β4 H4 := mv3.trans e4.mv
          have ra4 : Reps K β4 H4 acc ad := Reps.ext e4 _ _ ra3
          split at hy4
          · rename_i h1000
            have hal : ad.length + its.length ≤ sizeLine := by
              rw [sizeLine_eq]
              omega
            refine lc_dA (R := fun H => Iv (i + 1) H) hsl1 hal S1 hD ex4 S4 hA4 ra4 ((hσ2.ext e3).ext e4) it4 ((sat_noex (Out.sat_bind hy4) (fun _ _ => compGo_ex)).mono (E := fun _ _ => False) (fun ys s5 h5 β5 H5 xs m5 e5 S5 hA5 r5 l5 => ?_) fun _ _ z => z)
            refine ⟨hlt, β5, s5, xs, ad ++ ys, mv4.trans m5, e5, S5, hA5, r5, by rw [List.length_append]; omega, ?_⟩
            refine (sat_noex (Out.sat_bind h5) (fun _ _ => compGo2_ex)).mono (E := fun _ _ => False) (fun zs s6 h6 β6 H6 xs6 e6 S6 hA6 r6 l6 => ?_) fun _ _ z => z
            exact h6 β6 H6 xs6 e6 S6 hA6 (by simpa using r6) (by simpa using l6)
          · exact hy4.elim
  · have e0 : i = items.length := by omega
    subst e0
    refine .inl ⟨it.stop _ H _ mv (Nat.le_refl _), ?_⟩
    rw [List.drop_length] at go
    exact go β H acc ex S hA (by simpa using ra) (by rw [List.append_nil, sizeLine_eq]; omega)
section
variable {X : Cx} {W : WX} {pos : Pos} {elt tg iter tg1 iter1 : Expr} {ifs ifs1 : List Expr} {scope : Scope} {own : List (Str × Nat)} {vs1 : List Nat} {fi f1 : G (List D)} {p p1 : Pat} {t t1 : G Bool} {e : G D}
theorem tLc2_of {K : Zx} {mg : Str → Option Value} {vs : List Nat} {σ : L2.St} {H : Hp} {Q : VK} (hsl : ∀ i ∈ p.slots, i ∈ vs) (hsl1 : ∀ i ∈ p1.slots, i ∈ vs1) (h : tD K mg W (gComp2 vs fi p t vs1 f1 p1 t1 e) σ H Q) : tLc2 (tDI K mg W fi) (p.tg K) (tDT K mg WF t) (tDI K mg WF f1) (p1.tg K) (tDT K mg WF t1) (tD K mg WF e) vs vs1 σ H Q := by
  obtain ⟨β, ρ, st, hρ, hs, h⟩ := h
  refine ⟨β, ρ, st, hρ, hs, (Out.sat_bind h).mono (fun items s1 h1 J β1 H1 e1 S1 it hl D' hD => ?_) fun _ _ q => q⟩
  split at h1
  · rename_i h1000
    refine lc2_d (R := fun D H => Q (.ref D) H) hsl hsl1 h1000 (hρ.ext e1) S1 it hD ((sat_noex (Out.sat_bind h1) (fun _ _ => compGo2_ex)).mono (fun ys s2 p2 β2 H2 xs ex S2 hA r2 l2 => ?_) fun _ _ z => z)
    have hs' : ∀ a ∈ β1.pv, a ∈ β2.pv := fun a ha => by rw [ex.pv]; exact List.mem_cons_of_mem _ ha
    exact p2 (.ref D') (β2.back β1.pv) H2 (e1.trans (Ext.held hD ex)) (S2.back hs') (.lst hA ⟨show D' ∉ β2.lo from inLo_of S1 hD ex, (S1.nmem hD).2⟩ (Reps.move (Mv.back hs') _ _ r2) l2)
  · exact h1.elim
theorem de_comp2 (hc : X.calm = true) (hN : X.N.Nodup) (hi : DI X W tg iter fi) (ok : BlkOk X.N X.env.scope scope own) (hv : ∀ i ∈ vs1, i ∈ own.map (·.2)) (hsl : ∀ i ∈ p.slots, i ∈ own.map (·.2)) (hsl1 : ∀ i ∈ p1.slots, i ∈ vs1)
    (hg : ∀ (s : Shared) (H : Hp) (C : Addr) (cl : List (Str × Addr)) (fp : List Addr), DG (X.blk s H scope (compEnvC scope cl C X.env) fp) tg p) (ht : ∀ (s : Shared) (H : Hp) (C : Addr) (cl : List (Str × Addr)) (fp : List Addr), DTs (X.blk s H scope (compEnvC scope cl C X.env) fp) WF ifs t)
    (hi1 : ∀ (s : Shared) (H : Hp) (C : Addr) (cl : List (Str × Addr)) (fp : List Addr), DI (X.blk s H scope (compEnvC scope cl C X.env) fp) WF tg1 iter1 f1)
    (hg1 : ∀ (s : Shared) (H : Hp) (C : Addr) (cl : List (Str × Addr)) (fp : List Addr), DG (X.blk s H scope (compEnvC scope cl C X.env) fp) tg1 p1) (ht1 : ∀ (s : Shared) (H : Hp) (C : Addr) (cl : List (Str × Addr)) (fp : List Addr), DTs (X.blk s H scope (compEnvC scope cl C X.env) fp) WF ifs1 t1)
    (he : ∀ (s : Shared) (H : Hp) (C : Addr) (cl : List (Str × Addr)) (fp : List Addr), DE (X.blk s H scope (compEnvC scope cl C X.env) fp) WF elt e) (hs : ∀ x, foldedSetIterable iter X.env x = pure x := by intro _; rfl) (hs1 : ∀ env x, foldedSetIterable iter1 env x = pure x := by intro _ _; rfl) :
    DE X W (.ListComp elt [⟨tg, iter, ifs, 0⟩, ⟨tg1, iter1, ifs1, 0⟩] scope pos) (gComp2 (own.map (·.2)) fi p t vs1 f1 p1 t1 e) :=
  PEmono (pe_lc2 hc hN hi ok hv hg ht hi1 hg1 ht1 he hs hs1) fun _ _ _ h => tLc2_of hsl hsl1 h
end
end DL

set_option Elab.async false
set_option linter.all false
set_option maxRecDepth 100000
set_option maxHeartbeats 2000000
/-! # max of a list of ints -/
namespace DL
open PySem PySem.Spec L2
open PyProof.Rows hiding St
def maxI : List Int → Int
  | [] => 0
  | [a] => a
  | a :: b :: l => if maxI (b :: l) ≤ a then a else maxI (b :: l)
theorem maxI_mem : ∀ (a : Int) (l : List Int), maxI (a :: l) ∈ a :: l ∧ ∀ y ∈ a :: l, y ≤ maxI (a :: l)
  | a, [] => ⟨List.mem_cons_self, fun y hy => by rw [List.mem_singleton.mp hy]; exact Int.le_refl _⟩
  | a, b :: l => by
    obtain ⟨h1, h2⟩ := maxI_mem b l
    unfold maxI
    split
    · rename_i h
      refine ⟨List.mem_cons_self, fun y hy => ?_⟩
      rcases List.mem_cons.mp hy with rfl | hy
      · exact Int.le_refl _
      · exact Int.le_trans (h2 y hy) h
    · rename_i h
      refine ⟨List.mem_cons_of_mem _ h1, fun y hy => ?_⟩
      rcases List.mem_cons.mp hy with rfl | hy
      · omega
      · exact h2 y hy
def mMaxL : List D → Sto → Option D
  | [.lst l], _ => match intsOf l with
    | some (a :: ns) => some (.int (maxI (a :: ns)))
    | _ => none
  | _, _ => none
section
variable {X : Cx} {K : Zx} {β : Bx} {H : Hp}
theorem rMax_of {K : PySem.W.Frag} {a : Addr} {b : Int} {ns : List Int} {H : Hp} {Q : VK} (h : SqL K H a ((b :: ns).map V.int)) (q : Q (.int (maxI (b :: ns))) H) : rMax K [V.ref a] H Q := by
  refine ⟨a, b :: ns, rfl, h, by simp, fun m hm hy => ?_⟩
  obtain ⟨h1, h2⟩ := maxI_mem b ns
  have e : m = maxI (b :: ns) := Int.le_antisymm (h2 m hm) (hy _ h1)
  rw [e]
  exact q
theorem cd_maxL {K : Zx} : CallD K (rMax K.K) mMaxL := by
  intro β H st xs ds d Q r S e q
  match ds, r, e with
  | [.lst l], r, e =>
    obtain ⟨v, rfl, r1⟩ := r.one
    simp only [mMaxL] at e
    split at e
    · rename_i a ns hn
      cases e
      have el := intsOf_eq hn
      subst el
      cases r1 with
      | lst h1 hn' h2 h3 =>
        have ex := reps_intsV h2
        subst ex
        exact rMax_of (SqL.of h1) (q _ _ (Same.refl H) (.int _))
    · cases e
end
end DL

set_option Elab.async false
set_option linter.all false
set_option maxRecDepth 100000
set_option maxHeartbeats 2000000
/-! # sorted of tuples of texts, () among them -/
namespace DL
open PySem PySem.Spec L2 PySem.W PySem.Calls PySem.SeqAt
open PyProof.Rows hiding St
section
variable {prog : Program} {w : World} {A : Around} {E : Value → Shared → Prop} {s : Shared}
theorem tup_own_lt {p q : Addr} {us ws : Array Value} {e r : Nat → Bool} {Q : Value → Shared → Prop} (hp : s.heap.IsTuple p us) (hq : s.heap.IsTuple q ws)
    (ae : ∀ j (i1 : j < us.size) (i2 : j < ws.size), EqAt A.in1 s us[j] ws[j] (e j)) (ar : ∀ j (i1 : j < us.size) (i2 : j < ws.size), e j = false → RcLt A.in1 s us[j] ws[j] (r j))
    (hQ : Q (.bool (firstLt e r (decide (us.size < ws.size)) (List.range (min us.size ws.size)))) s) : wpAny (model prog w) A (call (.builtin "tuple.__lt__") [.ref p, .ref q]) Q E s := by
  obtain ⟨⟨c1, d1, da1, l1⟩, o1, k1, n1, e1⟩ := id hp
  obtain ⟨⟨c2, d2, da2, l2⟩, o2, k2, n2, e2⟩ := id hq
  simp only at k1 e1 k2 e2
  subst k1 e1 k2 e2
  exact call_meets F.slot_tuple_lt ⟨_, o1, rfl⟩ F.entry_tuple_lt (F.args_tuple_lt_2 _ _) (tuple_ltAt p q us ws n1 n2 d1 d2 l1 l2 e r) ⟨o1, o2, ae, ar, hQ⟩
theorem one_tups {xs ys : List PyData} {a b : Value} {as bs : List Addr} {Q : Bool → Shared → Prop} (ra : Reads s.heap a (.tuple xs) as) (rb : Reads s.heap b (.tuple ys) bs) (al : alike (.tuple xs) (.tuple ys) = true)
    (hu : A.units + min (PyData.tuple xs).depth (PyData.tuple ys).depth < cLine) (hQ : Q (dataLt (.tuple xs) (.tuple ys)) s) : wpAny (model prog w) A (oneLt' true a b) Q E s := by
  have al' : alikeAll xs ys = true := by simpa [alike] using al
  cases ra with
  | @tuple p o us n _ as1 g1 g2 g3 g4 =>
    cases rb with
    | @tuple p' o' ws n' _ bs1 f1 f2 f3 f4 =>
      have m1 : us.size = xs.length := by simpa using ReadsAll.length _ _ _ g4
      have m2 : ws.size = ys.length := by simpa using ReadsAll.length _ _ _ f4
      rw [dataLt_tuple, ← firstLt_toks xs ys al', ← m1, ← m2] at hQ
      rw [oneLt'_eq]
      simp only [if_true]
      refine wpAny_bind (wpAny_cRoomFor (room_here hu) (wpAny_bind (wpAny_callSpecialIfBound?_slot (T := "tuple") ⟨_, g1, g2⟩ F.slot_tuple_lt (tup_own_lt (e := pairEq xs ys) (r := fun j => dataLt (xs.getD j .none) (ys.getD j .none)) ⟨_, g1, g2, _, g3⟩ ⟨_, f1, f2, _, f3⟩ (fun j j1 j2 => ?_) (fun j j1 j2 hj => ?_) ?_))))
      · have z := eqAt_alikeAll xs ys A.in1 s us.toList ws.toList _ _ g4 f4 al' (room_in hu) j (by simpa using j1) (by simpa using j2)
        rwa [Array.getElem_toList, Array.getElem_toList] at z
      · have z := rcLt_alikeAll xs ys A.in1 s us.toList ws.toList _ _ g4 f4 al' (room_in hu) j (by simpa using j1) (by simpa using j2) hj
        rwa [Array.getElem_toList, Array.getElem_toList] at z
      · exact wpAny_truthy_bool hQ
def neTup : PyData → Bool
  | .tuple (_ :: _) => true
  | _ => false
theorem firsts_tups {M : Model} : ∀ {vs : List Value} {ds : List PyData}, EachIs (fun v d => ∃ as, Reads s.heap v d as) vs ds → (∀ d ∈ ds, ∃ r, d = .tuple r) → ∃ os : List (Option Value), os.map Option.isSome = ds.map neTup ∧ ∀ {Q : List (Option Value) → Shared → Prop}, Q os s → wpAny M A (vs.mapM firstOfTuple') Q E s
  | _, _, .nil, _ => ⟨[], rfl, fun h => by rw [List.mapM_nil]; exact wpAny_pure h⟩
  | v :: vs, d :: ds, .cons ⟨as, r⟩ t, tp => by
    obtain ⟨os, eo, go⟩ := firsts_tups t fun d hd => tp d (List.mem_cons_of_mem _ hd)
    obtain ⟨l, rfl⟩ := tp _ List.mem_cons_self
    cases r with
    | @tuple p o us n _ as1 g1 g2 g3 g4 =>
      refine ⟨us[0]? :: os, ?_, fun {Q} h => ?_⟩
      · rw [List.map_cons, List.map_cons, eo]
        congr 1
        have m1 : us.size = l.length := by simpa using ReadsAll.length _ _ _ g4
        cases l with
        | nil =>
          have : us[0]? = none := by simp at m1; simp [m1]
          rw [this]
          rfl
        | cons x l =>
          have : 0 < us.size := by rw [m1]; simp
          rw [Array.getElem?_eq_getElem this]
          rfl
      · rw [List.mapM_cons, kas_first_eq]
        refine wpAny_bind (wpAny_bind (Looks.here (show Looks M s.heap (typeOf (.ref p)) o.cls from (Looks.ld g1).andThen .now) ?_))
        rw [g2, if_neg (by decide)]
        exact wpAny_bind (listItems_at g1 g3 (wpAny_pure (wpAny_bind (go (wpAny_pure h)))))
theorem tups_kind {M : Model} {vs : List Value} {ds : List PyData} {Q : SortKind → Shared → Prop} (e : EachIs (fun v d => ∃ as, Reads s.heap v d as) vs ds) (tp : ∀ d ∈ ds, ∃ r, d = .tuple r) (hn : ds.all neTup = false) (h1 : ds.head?.any neTup = true → Q general' s) (h2 : ds.head?.any neTup = false → Q oneType' s) :
    wpAny M A (keyKind' vs.toArray) Q E s := by
  obtain ⟨os, eo, go⟩ := firsts_tups (A := A) (E := E) (M := M) e tp
  rw [keyKind'_eq, List.mapM_toArray, map_eq_pure_bind]
  refine wpAny_bind (wpAny_bind (go (wpAny_pure ?_)))
  have ea : (os.toArray.all fun x => x.isSome) = ds.all neTup := by
    rw [List.all_toArray]
    have : os.all (fun x => x.isSome) = (os.map Option.isSome).all id := by rw [List.all_map]; rfl
    rw [this, eo, List.all_map]
    rfl
  rw [if_neg (by rw [ea, hn]; simp)]
  have e0 : (os.toArray[0]?.bind id).isSome = ds.head?.any neTup := by
    rw [List.getElem?_toArray]
    cases os with
    | nil =>
      cases ds with
      | nil => rfl
      | cons d ds => simp at eo
    | cons o os =>
      cases ds with
      | nil => simp at eo
      | cons d ds =>
        rw [List.map_cons, List.map_cons] at eo
        exact (List.cons.inj eo).1
  cases hb : ds.head?.any neTup with
  | true =>
    rw [if_pos (by rw [e0, hb])]
    exact wpAny_pure (h1 hb)
  | false =>
    rw [if_neg (by rw [e0, hb]; simp)]
    rw [oneTypeOnly'_eq, List.mapM_toArray, map_eq_pure_bind]
    have hT : ∀ v ∈ vs, Looks M s.heap (typeOf v) (Value.type "tuple") := fun v hv => by
      obtain ⟨d, hd, as, r⟩ := e.left v hv
      obtain ⟨l, rfl⟩ := tp d hd
      exact looks_reads r
    refine wpAny_bind (wpAny_bind (wpAny_bind (kas_mapM (r := Value.type "tuple") _ (fun v hv Q' hq => (hT v hv).here hq) (wpAny_pure ?_))))
    cases e with
    | nil => exact absurd hn (by simp)
    | @cons v d vs ds hv t =>
      have hall : ((List.map (fun _ => Value.type "tuple") (v :: vs)).toArray.all fun x => x == Value.type "tuple") = true := by
        simp only [List.all_toArray, List.all_map, List.all_eq_true]
        exact fun _ _ => by show (Value.type "tuple" == Value.type "tuple") = true; decide
      have hh : (List.map (fun _ => Value.type "tuple") (v :: vs)).toArray[0]? = some (Value.type "tuple") := by simp
      rw [hh]
      simp only [hall, if_true]
      exact wpAny_pure (wpAny_pure (h2 hb))
theorem sorts_tups {vs : List Value} {ds : List PyData} (e : EachIs (fun v d => ∃ as, Reads s.heap v d as) vs ds) (hal : AllAlike ds) (tp : ∀ d ∈ ds, ∃ r, d = .tuple r) (hu : ∀ d, d ∈ ds → A.units + d.depth < cLine) : SortsAt prog w A s (dataKind s.heap ds) vs := by
  cases hn : ds.all neTup with
  | true =>
    refine SortsAt.data e hal (.inl fun d hd => ?_) hu
    have := List.all_eq_true.mp hn d hd
    obtain ⟨r, rfl⟩ := tp d hd
    cases r with
    | nil => exact absurd this (by decide)
    | cons x r => exact ⟨x, r, rfl⟩
  | false =>
    have room : ∀ {d d' : PyData}, d ∈ ds → A.units + min d.depth d'.depth < cLine := fun {d d'} hd => by have := hu d hd; omega
    refine ⟨fun v hv => ?_, ?_⟩
    · obtain ⟨d, hd, as, r⟩ := e.left v hv
      exact ⟨_, dataKind_some hal hd r⟩
    · cases hb : ds.head?.any neTup with
      | true =>
        refine ⟨general', fun E x y a b Q ha hb' hq => ?_, fun _ E Q hq => tups_kind e tp hn (fun _ => hq) fun z => by rw [hb] at z; cases z⟩
        obtain ⟨d, as, hd, ra, rfl⟩ := dataKind_inv ha
        obtain ⟨d', as', hd', rb, rfl⟩ := dataKind_inv hb'
        obtain ⟨l, rfl⟩ := tp d hd
        exact oneLt_alike (f := false) (fun z => by cases z) ra rb (hal _ hd _ hd') (fun z => by cases z) (room hd) hq
      | false =>
        refine ⟨oneType', fun E x y a b Q ha hb' hq => ?_, fun _ E Q hq => tups_kind e tp hn (fun z => by rw [hb] at z; cases z) fun _ => hq⟩
        obtain ⟨d, as, hd, ra, rfl⟩ := dataKind_inv ha
        obtain ⟨d', as', hd', rb, rfl⟩ := dataKind_inv hb'
        obtain ⟨l, rfl⟩ := tp d hd
        obtain ⟨l', rfl⟩ := tp d' hd'
        rw [keyLt'_oneType]
        exact one_tups ra rb (hal _ hd _ hd') (room hd) hq
end
def isTS : D → Bool
  | .tup l => l.all fun x => match x with
    | .str y => PyData.strOk y
    | _ => false
  | _ => false
def okSrtT (l : List D) : Bool := l.all isTS
def mSortT : List D → Sto → Option D
  | [.lst l], _ => if okSrtT l = true then some (.lst (sortD l)) else none
  | _, _ => none
theorem isTS_py {d : D} (h : isTS d = true) : ∃ xs : List Str, d.py = .tuple (xs.map .str) ∧ ∀ x ∈ xs, PyData.strOk x = true := by
  cases d with
  | tup l =>
    have h : (l.all fun x => match x with
      | .str y => PyData.strOk y
      | _ => false) = true := h
    have go : ∀ l : List D, (l.all fun x => match x with
      | .str y => PyData.strOk y
      | _ => false) = true → ∃ xs : List Str, D.pys l = xs.map .str ∧ ∀ x ∈ xs, PyData.strOk x = true := by
      intro l
      induction l with
      | nil => exact fun _ => ⟨[], rfl, fun x hx => absurd hx (by simp)⟩
      | cons a l ih =>
        intro h
        rw [List.all_cons, Bool.and_eq_true] at h
        obtain ⟨xs, e, k⟩ := ih h.2
        cases a with
        | str x => exact ⟨x :: xs, by rw [D.pys, e]; rfl, fun y hy => (List.mem_cons.mp hy).elim (fun z => by rw [z]; exact h.1) (k y)⟩
        | _ => exact absurd h.1 (by simp)
    obtain ⟨xs, e, k⟩ := go l h
    exact ⟨xs, by rw [D.py, e], k⟩
  | _ => cases h
theorem alike_strs : ∀ xs ys : List Str, alikeAll (xs.map PyData.str) (ys.map PyData.str) = true
  | [], ys => by cases ys <;> simp [alikeAll]
  | x :: xs, [] => by simp [alikeAll]
  | x :: xs, y :: ys => by simp [alikeAll, alike, alike_strs xs ys]
theorem lay_strs : ∀ xs : List Str, (∀ x ∈ xs, PyData.strOk x = true) → PyData.canLayAll0 (xs.map PyData.str) = true
  | [], _ => by simp [PyData.canLayAll0]
  | x :: xs, k => by simp [PyData.canLayAll0, PyData.canLay0, k x List.mem_cons_self, lay_strs xs fun y hy => k y (List.mem_cons_of_mem _ hy)]
theorem dep_strs : ∀ xs : List Str, PyData.depthAll (xs.map PyData.str) ≤ 1
  | [] => by simp [PyData.depthAll]
  | x :: xs => by
    have := dep_strs xs
    simp [PyData.depthAll, PyData.depth]
    omega
/-- what sorting asks of the items -/
structure SrtAskT (K : PySem.W.Frag) (H : Hp) (xs : List V) (ps : List PyData) : Prop where
  dp : DpAll K H xs ps
  al : AllAlike ps
  tp : ∀ d ∈ ps, ∃ r, d = .tuple r
  dp30 : ∀ d ∈ ps, d.depth ≤ 30
def rSrtT (K : PySem.W.Frag) : List V → Hp → VK → Prop := fun vs H Q => ∃ (a : Addr) (xs : List V) (ps : List PyData), vs = [V.ref a] ∧ SqL K H a xs ∧ SrtAskT K H xs ps ∧ ∀ p, H p = none → Q (.ref p) (upd H p (.lst ((srtB (xs.zip ps)).map (·.1))))
theorem cr_srtT {X : Cx} (hu : X.A.units + 64 < cLine) : CallR X (.builtin "sorted") (rSrtT X.K) := by
  intro pins s σ H vs us Q I r h
  obtain ⟨a, xs, ps, rfl, hs, ask, q⟩ := h
  obtain ⟨its, rv, hl, hz⟩ := I.list hs
  rw [Vals.ref1 r]
  obtain ⟨e1, e2⟩ := each_rel I ask.dp rv
  have hlen := dpAll_len ask.dp
  have hm : (xs.zip ps).map (fun b => b.2) = ps := zip_snd hlen
  have hzl : (xs.zip ps).length = xs.length := by rw [List.length_zip]; omega
  have e3 : EachIs (fun v (b : V × PyData) => ∃ as, Reads (sortingHeap (copyHeap s.heap its) (s.heap.objs.size + 1) its) v b.2 as) its (xs.zip ps) :=
    e2.mono fun _ _ ⟨as, r⟩ => ⟨as, PyProof.Rows.Reads.keeps (fun _ _ => sorting_copy_old) r⟩
  have e4 := each_map (R := fun v d => ∃ as, Reads (sortingHeap (copyHeap s.heap its) (s.heap.objs.size + 1) its) v d as) (fun b : V × PyData => b.2) e3
  rw [hm] at e4
  have hal : AllAlike ((xs.zip ps).map fun b => b.2) := by rw [hm]; exact ask.al
  have S := sorts_tups (prog := X.prog) (w := X.w) (A := X.A.in1.in1) (s := { s with heap := sortingHeap (copyHeap s.heap its) (s.heap.objs.size + 1) its }) e4 ask.al ask.tp fun d hd => by
    have := ask.dp30 d hd
    simp only [Around.in1_units]
    omega
  refine sorted_vals hl.isList S (by rw [e1.length, hzl]; exact hz) ?_
  have ho := sortVals_data (R := fun u (b : V × PyData) => RelV b.1 u) (enc := fun b : V × PyData => b.2) false e1 e3 hal
  rw [hm] at ho
  generalize sortVals (dataKind (sortingHeap (copyHeap s.heap its) (s.heap.objs.size + 1) its) ps) false its its = out at ho
  obtain ⟨ep, he'⟩ := PyProof.Rows.sortedAll_at s.heap its out.toArray
  have hv : Vals ((srtB (xs.zip ps)).map (·.1)) out := each_vals ho
  refine ⟨.ref _, upd H (s.heap.objs.size + 1) (.lst ((srtB (xs.zip ps)).map (·.1))), I.laid (t' := s.toks) (fun _ _ => PyProof.Rows.sortedAll_old) (Nat.le_succ _) ⟨?_, out, ep, hv, he'⟩, rfl, q _ (I.hok.fresh (Nat.le_succ _))⟩
  rw [List.length_map, List.length_mergeSort, hzl]
  exact hz
section
variable {X : Cx} {K : Zx} {β : Bx} {H : Hp}
theorem srt_askT {l : List D} {xs : List V} (h : okSrtT l = true) (r : Reps K β H xs l) : SrtAskT K H xs (l.map D.py) := by
  have m : ∀ a ∈ l, ∃ xs : List Str, a.py = .tuple (xs.map .str) ∧ ∀ x ∈ xs, PyData.strOk x = true := fun a ha => isTS_py (List.all_eq_true.mp h a ha)
  refine ⟨?_, fun d hd d' hd' => ?_, fun d hd => ?_, fun d hd => ?_⟩
  · rw [← pys_map]
    refine Reps.dp l xs (canAll fun a ha => ?_) r
    obtain ⟨ys, e, k⟩ := m a ha
    rw [e, PyData.canLay0]
    exact lay_strs ys k
  · obtain ⟨a, ha, rfl⟩ := List.mem_map.mp hd
    obtain ⟨b, hb, rfl⟩ := List.mem_map.mp hd'
    obtain ⟨ys, e, _⟩ := m a ha
    obtain ⟨zs, e', _⟩ := m b hb
    rw [e, e', alike]
    exact alike_strs ys zs
  · obtain ⟨a, ha, rfl⟩ := List.mem_map.mp hd
    obtain ⟨ys, e, _⟩ := m a ha
    exact ⟨_, e⟩
  · obtain ⟨a, ha, rfl⟩ := List.mem_map.mp hd
    obtain ⟨ys, e, _⟩ := m a ha
    have := dep_strs ys
    rw [e, PyData.depth]
    omega
theorem cd_srtT : CallD K (rSrtT K) mSortT := by
  intro β H st xs ds d Q r S e q
  match ds, r, e with
  | [.lst l], r, e =>
    obtain ⟨v, rfl, r1⟩ := r.one
    simp only [mSortT] at e
    split at e
    · rename_i hz
      cases e
      cases r1 with
      | lst h1 hn h2 h3 =>
        refine ⟨_, _, _, rfl, SqL.of h1, srt_askT hz h2, fun p hp => ?_⟩
        exact q _ _ (same_new hp) (.lst upd_same (S.nmem hp) (Reps.ext (Ext.new hp) _ _ (reps_srt h2)) (by rw [sortD_len]; exact h3))
    · cases e
end
theorem srtT_at {l : List D} {st : Sto} (ho : okSrtT l = true) : mSortT [.lst l] st = some (.lst (sortD l)) := by simp only [mSortT, if_pos ho]
end DL

set_option Elab.async false
set_option linter.all false
set_option maxRecDepth 100000
set_option maxHeartbeats 2000000
/-! # sorted by insertion: the kernel runs it -/
namespace DL
open PySem PySem.Spec L2 PySem.W
open PyProof.Rows hiding St
def insD (a : D) : List D → List D
  | [] => [a]
  | b :: l => if dataLe false D.py a b = true then a :: b :: l else b :: insD a l
def isortD : List D → List D
  | [] => []
  | a :: l => insD a (isortD l)
theorem dle_trans : ∀ a b c : D, dataLe false D.py a b = true → dataLe false D.py b c = true → dataLe false D.py a c = true := fun a b c h1 h2 => by
  unfold dataLe at h1 h2 ⊢
  exact (sortLe_total _ _ _).trans _ _ _ h1 h2
theorem dle_total : ∀ a b : D, (dataLe false D.py a b || dataLe false D.py b a) = true := fun a b => by
  unfold dataLe
  have := (sortLe_total (listOrd itemOrd) false fun b : D => keyToks b.py).total a b
  simpa using this
theorem insD_split {a : D} : ∀ {l1 l2 : List D}, (∀ b ∈ l1, (!dataLe false D.py a b) = true) → (∀ b ∈ l2, dataLe false D.py a b = true) → insD a (l1 ++ l2) = l1 ++ a :: l2
  | [], [], _, _ => rfl
  | [], b :: l2, _, h => by
    rw [List.nil_append, insD, if_pos (h b List.mem_cons_self)]
    rfl
  | c :: l1, l2, h1, h2 => by
    have hc := h1 c List.mem_cons_self
    rw [Bool.not_eq_true'] at hc
    rw [List.cons_append, insD, if_neg (by rw [hc]; simp), insD_split (fun b hb => h1 b (List.mem_cons_of_mem _ hb)) h2]
    rfl
theorem sortD_ins : ∀ l : List D, sortD l = isortD l
  | [] => by unfold sortD; rw [List.mergeSort_nil]; rfl
  | a :: l => by
    obtain ⟨l1, l2, e1, e2, h⟩ := List.mergeSort_cons dle_trans dle_total a l
    have hs := List.pairwise_mergeSort (le := dataLe false D.py) dle_trans dle_total (a :: l)
    rw [e1] at hs
    have hs2 := (List.pairwise_append.mp hs).2.1
    have h2 := (List.pairwise_cons.mp hs2).1
    show (a :: l).mergeSort (dataLe false D.py) = insD a (isortD l)
    rw [← sortD_ins l, e1]
    show _ = insD a (l.mergeSort (dataLe false D.py))
    rw [e2, insD_split h h2]
def mSortDI : List D → Sto → Option D
  | [.lst l], _ => if okSrt l = true then some (.lst (isortD l)) else none
  | _, _ => none
def mSortTI : List D → Sto → Option D
  | [.lst l], _ => if okSrtT l = true then some (.lst (isortD l)) else none
  | _, _ => none
def mSortNI : List D → Sto → Option D
  | [d], st => match dNR d st with
    | some (_, kvs) => if okSrt (kvs.map (·.1)) = true ∧ kvs.length ≤ 16000000 then some (.lst (isortD (kvs.map (·.1)))) else none
    | none => none
  | _, _ => none
theorem mSortDI_eq : mSortD = mSortDI := by
  funext ds st
  unfold mSortD mSortDI
  simp only [sortD_ins]
  all_goals rfl
theorem mSortTI_eq : mSortT = mSortTI := by
  funext ds st
  unfold mSortT mSortTI
  simp only [sortD_ins]
  all_goals rfl
theorem mSortNI_eq : mSortN = mSortNI := by
  funext ds st
  unfold mSortN mSortNI
  simp only [sortD_ins]
  all_goals rfl
theorem cd_srtI {K : Zx} : CallD K (rSrt K.K) mSortDI := by
  rw [← mSortDI_eq]
  exact cd_srt
theorem cd_srtTI {K : Zx} : CallD K (rSrtT K.K) mSortTI := by
  rw [← mSortTI_eq]
  exact cd_srtT
theorem cd_srtNI {X : Cx} : CallD (zOf X) (rSrtN X) mSortNI := by
  rw [← mSortNI_eq]
  exact cd_srtN
end DL

set_option Elab.async false
set_option linter.all false
set_option maxRecDepth 100000
set_option maxHeartbeats 2000000
/-! # sorted(set(a tuple of tuples of texts)) -/
namespace DL
open PySem PySem.Spec L2 PySem.W
open PyProof.Rows hiding St
theorem each_perm {α β : Type} {R : α → β → Prop} {vs us : List α} (h : vs.Perm us) : ∀ {bs : List β}, EachIs R us bs → ∃ bs', bs'.Perm bs ∧ EachIs R vs bs' := by
  induction h with
  | nil => exact fun e => ⟨_, List.Perm.refl _, e⟩
  | cons x _ ih =>
    intro bs e
    cases e with
    | cons r t =>
      obtain ⟨bs', p, e'⟩ := ih t
      exact ⟨_ :: bs', p.cons _, .cons r e'⟩
  | swap x y l =>
    intro bs e
    cases e with
    | cons r t =>
      cases t with
      | cons r2 t => exact ⟨_ :: _ :: _, List.Perm.swap .., .cons r2 (.cons r t)⟩
  | trans _ _ ih1 ih2 =>
    intro bs e
    obtain ⟨b2, p2, e2⟩ := ih2 e
    obtain ⟨b1, p1, e1⟩ := ih1 e2
    exact ⟨b1, p1.trans p2, e1⟩
/-- no two are the same to the sorting -/
def Dist (bs : List (V × PyData)) : Prop := ∀ a ∈ bs, ∀ b ∈ bs, dataLe false (·.2) a b = true → dataLe false (·.2) b a = true → a = b
theorem ble_trans : ∀ a b c : V × PyData, dataLe false (·.2) a b = true → dataLe false (·.2) b c = true → dataLe false (·.2) a c = true := fun a b c h1 h2 => by
  unfold dataLe at h1 h2 ⊢
  exact (sortLe_total _ _ _).trans _ _ _ h1 h2
theorem ble_total : ∀ a b : V × PyData, (dataLe false (·.2) a b || dataLe false (·.2) b a) = true := fun a b => by
  unfold dataLe
  have := (sortLe_total (listOrd itemOrd) false fun b : V × PyData => keyToks b.2).total a b
  simpa using this
theorem srt_perm {bs cs : List (V × PyData)} (h : bs.Perm cs) (hd : Dist cs) : srtB bs = srtB cs := by
  refine List.Perm.eq_of_pairwise (le := fun a b => dataLe false (·.2) a b = true) (fun a b ha hb h1 h2 => ?_) (List.pairwise_mergeSort ble_trans ble_total bs) (List.pairwise_mergeSort ble_trans ble_total cs) (((List.mergeSort_perm _ _).trans h).trans (List.mergeSort_perm _ _).symm)
  exact hd a (h.mem_iff.mp ((List.mergeSort_perm _ _).mem_iff.mp ha)) b ((List.mergeSort_perm _ _).mem_iff.mp hb) h1 h2
theorem each_and {α β : Type} {R S : α → β → Prop} : ∀ {vs : List α} {bs : List β}, EachIs R vs bs → EachIs S vs bs → EachIs (fun v b => R v b ∧ S v b) vs bs
  | _, _, .nil, _ => .nil
  | _, _, .cons r t, h => by
    cases h with
    | cons r2 t2 => exact .cons ⟨r, r2⟩ (each_and t t2)
theorem vals_rf : ∀ ks : NL, Vals (ks.map fun p => V.ref p.1) (ks.map fun p => Value.ref p.1)
  | [] => .nil
  | p :: ks => .cons rfl (vals_rf ks)
section
variable {X : Cx}
def rSrtM (X : Cx) : List V → Hp → VK → Prop := fun vs H Q => ∃ (a : Addr) (L ks : NL) (ps : List PyData), vs = [V.ref a] ∧ H a = some (SMO X.prog X.w a L) ∧ L.Perm ks ∧ (∀ p ∈ L, KeyM X H (.ref p.1) p.2) ∧
  SrtAskT X.K H (ks.map fun p => V.ref p.1) ps ∧ Dist ((ks.map fun p => V.ref p.1).zip ps) ∧ ∀ p, H p = none → Q (.ref p) (upd H p (.lst ((srtB ((ks.map fun p => V.ref p.1).zip ps)).map (·.1))))
theorem cr_srtM (hc : X.calm = true) (hu : X.A.units + 64 < cLine) : CallR X (.builtin "sorted") (rSrtM X) := by
  intro pins s σ H vs us Q I r h
  obtain ⟨a, L, ks, ps, rfl, ha, pm, hk, ask, di, q⟩ := h
  rw [Vals.ref1 r]
  have R0 : SM0 X.prog X.w s.heap a L := (I.hok a _ ha).1
  obtain ⟨es, ep, t, R⟩ := R0.full fun p hp => Inv.isK I (hk p hp)
  obtain ⟨o, ho, hex, hd⟩ := R.ob
  have few := R.few
  have hes : es.toList.map (·.2) = L.map fun p => Value.ref p.1 := by rw [R.rows, List.map_map]; rfl
  refine Calls.call_function_entry PyProof.Rows.kind_sorted PyProof.Rows.plain_sorted PyProof.Rows.entry_sorted (PyProof.Rows.args_sorted1 _) ?_
  unfold Builtin.«sorted»
  refine wpAny_bind (m := checkCount "sorted" 1 1 _) (wpAny_pure (wpAny_bind (collect_set (A := X.A.in1) (I.ok.hd hc) ⟨o, ho, hex.1, hd⟩ R.fits (by rw [R.size]; unfold scanBound; omega) R.tab.up R.led fun s1 acc k1 hz g1 o1 pm1 => ?_)))
  have pm2 : acc.Perm (ks.map fun p => Value.ref p.1) := by
    rw [hes] at pm1
    exact pm1.trans (pm.map _)
  have hlen := dpAll_len ask.dp
  have hm : ((ks.map fun p => V.ref p.1).zip ps).map (fun b => b.2) = ps := zip_snd hlen
  obtain ⟨e1, e2⟩ := each_rel I ask.dp (vals_rf ks)
  obtain ⟨bs, pb, eb⟩ := each_perm pm2 (each_and e1 e2)
  have pmb : (bs.map fun b => b.2).Perm ps := by
    have := pb.map fun b => b.2
    rwa [hm] at this
  have hal : AllAlike (bs.map fun b => b.2) := fun d hd d' hd' => ask.al d (pmb.mem_iff.mp hd) d' (pmb.mem_iff.mp hd')
  have hacc : acc.length ≤ 256 := by
    rw [pm2.length_eq, List.length_map, ← pm.length_eq]
    exact few
  have hbl : bs.length = acc.length := eb.length.symm
  obtain ⟨hp1, gn1, dr1, tk1, os1⟩ := s1
  have g1 : gn1 = s.gens := g1
  have o1 : os1 = s.os := o1
  subst g1 o1
  refine wpAny_bind (wpAny_newList ?_ (by rw [sizeLine_eq]; omega))
  have hoL : (hp1.push (seqObj "list" acc.toArray 0)).get? hp1.objs.size = some (seqObj "list" acc.toArray 0) := Heap.get?_push_size _ rfl
  have er : EachIs (fun u (b : V × PyData) => ∃ as, Reads (sortingHeap (hp1.push (seqObj "list" acc.toArray 0)) hp1.objs.size acc) u b.2 as) acc bs :=
    eb.mono fun _ _ ⟨_, as, r⟩ => ⟨as, PyProof.Rows.Reads.keeps (fun b o e => sortingHeap_old (Nat.ne_of_lt (Heap.lt_size (k1 b o e))) (Heap.get?_push_of_some _ (k1 b o e))) r⟩
  have S := sorts_tups (prog := X.prog) (w := X.w) (A := X.A.in1.in1) (s := ⟨sortingHeap (hp1.push (seqObj "list" acc.toArray 0)) hp1.objs.size acc, s.gens, dr1, tk1, s.os⟩)
    (each_map (R := fun u d => ∃ as, Reads (sortingHeap (hp1.push (seqObj "list" acc.toArray 0)) hp1.objs.size acc) u d as) (fun b : V × PyData => b.2) er) hal (fun d hd => ask.tp d (pmb.mem_iff.mp hd)) fun d hd => by
      have := ask.dp30 d (pmb.mem_iff.mp hd)
      simp only [Around.in1_units]
      omega
  refine wpAny_bind (wpAny_holding (wpAny_call_entry PyProof.Rows.slot_list_sort ⟨_, hoL, rfl⟩ PyProof.Rows.entry_list_sort
    (list_sort_vals (s := ⟨hp1.push (seqObj "list" acc.toArray 0), s.gens, dr1, tk1, s.os⟩) hoL S (by rw [sizeLine_eq]; omega) ⟨_, rfl, ?_⟩) (PyProof.Rows.args_list_sort _)))
  have ho := sortVals_data (R := fun u (b : V × PyData) => RelV b.1 u) (enc := fun b : V × PyData => b.2) false (eb.mono fun _ _ z => z.1) er hal
  have es1 : bs.mergeSort (dataLe false fun b : V × PyData => b.2) = srtB ((ks.map fun p => V.ref p.1).zip ps) := srt_perm pb di
  rw [es1] at ho
  obtain ⟨e', he'⟩ := PyProof.Rows.sortedHeap_at (vs := acc) (out := (sortVals (dataKind (sortingHeap (hp1.push (seqObj "list" acc.toArray 0)) hp1.objs.size acc) (bs.map fun b => b.2)) false acc acc).toArray) hoL
  have kp : ∀ b o, s.heap.get? b = some o → (sortedHeap (hp1.push (seqObj "list" acc.toArray 0)) hp1.objs.size acc (sortVals (dataKind (sortingHeap (hp1.push (seqObj "list" acc.toArray 0)) hp1.objs.size acc) (bs.map fun b => b.2)) false acc acc).toArray).get? b = some o := fun b u e => by
    have q := k1 b u e
    have lt := Heap.lt_size q
    rw [PyProof.Rows.sortedHeap_old (Nat.ne_of_lt lt) (by rw [size_push']; exact Nat.lt_succ_of_lt lt)]
    exact Heap.get?_push_of_some _ q
  have hz : s.heap.objs.size ≤ hp1.objs.size := hz
  have hf : H hp1.objs.size = none := I.hok.fresh hz
  have len : ((srtB ((ks.map fun p => V.ref p.1).zip ps)).map (·.1)).length ≤ sizeLine := by
    rw [List.length_map, List.length_mergeSort, List.length_zip, sizeLine_eq, List.length_map]
    rw [pm2.length_eq, List.length_map] at hacc
    omega
  generalize sortVals (dataKind (sortingHeap (hp1.push (seqObj "list" acc.toArray 0)) hp1.objs.size acc) (bs.map fun b => b.2)) false acc acc = out at ho he' kp
  have nl : ObjOk X.prog X.w (upd H hp1.objs.size (.lst ((srtB ((ks.map fun p => V.ref p.1).zip ps)).map (·.1)))) (sortedHeap (hp1.push (seqObj "list" acc.toArray 0)) hp1.objs.size acc out.toArray) hp1.objs.size (.lst ((srtB ((ks.map fun p => V.ref p.1).zip ps)).map (·.1))) := ⟨len, _, e', each_vals ho, he'⟩
  have fin := I.call (h' := sortedHeap (hp1.push (seqObj "list" acc.toArray 0)) hp1.objs.size acc out.toArray) (g' := s.gens) (d' := dr1) (t' := tk1) (ch := []) (Un.laid kp hz hf) (I.hok.laid kp hz nl) I.bare fun b z => absurd z (by simp)
  exact wpAny_pure ⟨_, rfl, .ref hp1.objs.size, _, fin, rfl, q _ hf⟩
end
/-! ### sorted of texts -/
def isStrD : D → Bool
  | .str y => PyData.strOk y
  | _ => false
def okSrtS (l : List D) : Bool := l.all isStrD
def mSortS : List D → Sto → Option D
  | [.lst l], _ => if okSrtS l = true then some (.lst (isortD l)) else none
  | _, _ => none
theorem isStrD_is {d : D} (h : isStrD d = true) : ∃ x : Str, d = .str x ∧ PyData.strOk x = true := by
  cases d with
  | str x => exact ⟨x, rfl, h⟩
  | _ => cases h
section
variable {X : Cx} {K : Zx} {β : Bx} {H : Hp}
theorem srt_askS {l : List D} {xs : List V} (h : okSrtS l = true) (r : Reps K β H xs l) : SrtAsk K H xs (l.map D.py) := by
  have m : ∀ a ∈ l, ∃ x : Str, a.py = .str x ∧ PyData.strOk x = true := fun a ha => by
    obtain ⟨x, rfl, k⟩ := isStrD_is (List.all_eq_true.mp h a ha)
    exact ⟨x, by rw [D.py], k⟩
  have mem : ∀ d ∈ l.map D.py, ∃ x : Str, d = .str x ∧ PyData.strOk x = true := fun d hd => by
    obtain ⟨a, ha, rfl⟩ := List.mem_map.mp hd
    exact m a ha
  refine ⟨?_, fun d hd d' hd' => ?_, .inr fun d hd => ?_, fun d hd => ?_⟩
  · rw [← pys_map]
    refine Reps.dp l xs (canAll fun a ha => ?_) r
    obtain ⟨x, e, k⟩ := m a ha
    rw [e, PyData.canLay0]
    exact k
  · obtain ⟨x, rfl, _⟩ := mem d hd
    obtain ⟨y, rfl, _⟩ := mem d' hd'
    rfl
  · obtain ⟨x, rfl, _⟩ := mem d hd
    all_goals simp
  · obtain ⟨x, rfl, _⟩ := mem d hd
    simp [PyData.depth]
theorem cd_srtS : CallD K (rSrt K.K) mSortS := by
  intro β H st xs ds d Q r S e q
  match ds, r, e with
  | [.lst l], r, e =>
    obtain ⟨v, rfl, r1⟩ := r.one
    simp only [mSortS] at e
    split at e
    · rename_i hz
      cases e
      cases r1 with
      | lst h1 hn h2 h3 =>
        refine ⟨_, _, _, rfl, SqL.of h1, srt_askS hz h2, fun p hp => ?_⟩
        have := reps_srt h2
        rw [sortD_ins] at this
        exact q _ _ (same_new hp) (.lst upd_same (S.nmem hp) (Reps.ext (Ext.new hp) _ _ this) (by rw [← sortD_ins, sortD_len]; exact h3))
    · cases e
end
/-! ### sorted(set(tuple)) -/
def strictD : List D → Bool
  | a :: b :: l => !dataLe false D.py b a && strictD (b :: l)
  | _ => true
def mSortSet : D → Sto → Option D
  | .tup l, _ => if okSrtT l = true ∧ l.length ≤ 256 ∧ (keysT l).isSome = true ∧ strictD (isortD l) = true then some (.lst (isortD l)) else none
  | _, _ => none
def mSortSetL : List D → Sto → Option D
  | [d], st => mSortSet d st
  | _, _ => none
/-- not the same to the sorting -/
def Apart (a b : D) : Prop := ¬ (dataLe false D.py a b = true ∧ dataLe false D.py b a = true)
theorem strict_apart : ∀ {l : List D}, strictD l = true → l.Pairwise fun a b => dataLe false D.py b a = false
  | [], _ => .nil
  | [a], _ => .cons (fun b hb => by cases hb) .nil
  | a :: b :: l, h => by
    unfold strictD at h
    rw [Bool.and_eq_true, Bool.not_eq_true'] at h
    have ih := strict_apart h.2
    refine .cons (fun c hc => ?_) ih
    rcases List.mem_cons.mp hc with rfl | hc
    · exact h.1
    · cases z : dataLe false D.py c a with
      | false => rfl
      | true =>
        have hbc := (List.pairwise_cons.mp ih).1 c hc
        have hcb : dataLe false D.py b c = true := by
          have := dle_total b c
          rw [hbc, Bool.or_false] at this
          exact this
        have := dle_trans _ _ _ hcb z
        rw [h.1] at this
        cases this
theorem apart_of {l : List D} (h : strictD (isortD l) = true) : l.Pairwise Apart := by
  have p : (isortD l).Perm l := by rw [← sortD_ins]; exact List.mergeSort_perm _ _
  refine (p.pairwise_iff fun {a b} z => fun w => z w.symm).mp ((strict_apart h).imp fun {a b} z w => ?_)
  rw [z] at w
  cases w.2
theorem key_py {d d' : D} (h : isTS d = true) (h' : isTS d' = true) {k : NestedKey} (e : keyD d = some k) (e' : keyD d' = some k) : d = d' := by
  have go : ∀ {l l' : List D}, (∀ a ∈ l, ∃ x : Str, a = .str x) → (∀ a ∈ l', ∃ x : Str, a = .str x) → ∀ ks, keysD l = some ks → keysD l' = some ks → l = l' := by
    intro l
    induction l with
    | nil =>
      intro l' _ m' ks e e'
      cases l' with
      | nil => rfl
      | cons a l' =>
        unfold keysD at e e'
        cases e
        split at e'
        · cases e'
        · cases e'
    | cons a l ih =>
      intro l' m m' ks e e'
      obtain ⟨x, rfl⟩ := m a List.mem_cons_self
      cases l' with
      | nil =>
        unfold keysD at e e'
        cases e'
        split at e
        · cases e
        · cases e
      | cons b l' =>
        obtain ⟨y, rfl⟩ := m' b List.mem_cons_self
        unfold keysD at e e'
        split at e
        · rename_i k1 ks1 q1 q2
          cases e
          split at e'
          · rename_i k2 ks2 r1 r2
            cases e'
            rw [keyD] at q1 r1
            cases q1
            cases r1
            rw [ih (fun c hc => m c (List.mem_cons_of_mem _ hc)) (fun c hc => m' c (List.mem_cons_of_mem _ hc)) _ q2 r2]
          · cases e'
        · cases e
  have sts : ∀ {l : List D}, isTS (.tup l) = true → ∀ a ∈ l, ∃ x : Str, a = .str x := fun {l} h a ha => by
    have := List.all_eq_true.mp h a ha
    cases a with
    | str x => exact ⟨x, rfl⟩
    | _ => exact absurd this (by simp)
  cases d with
  | tup l =>
    cases d' with
    | tup l' =>
      rw [keyD, Option.map_eq_some_iff] at e e'
      obtain ⟨ks, e1, rfl⟩ := e
      obtain ⟨ks', e2, e3⟩ := e'
      cases e3
      rw [go (sts h) (sts h') _ e1 e2]
    | _ => cases h'
  | _ => cases h
section
variable {X : Cx} {W : WX}
theorem nd_keys {l : List D} {ks : NL} (ht : okSrtT l = true) (ha : l.Pairwise Apart) (hk : keysT l = some (ks.map (·.2))) : (ks.map (·.2)).Nodup := by
  have go : ∀ {l : List D} {kk : List NestedKey}, okSrtT l = true → l.Pairwise Apart → keysT l = some kk → kk.Nodup ∧ ∀ k ∈ kk, ∃ d ∈ l, keyT d = some k := by
    intro l
    induction l with
    | nil =>
      intro kk _ _ h
      cases h
      exact ⟨.nil, fun k hk => by cases hk⟩
    | cons d l ih =>
      intro kk ht ha h
      unfold okSrtT at ht
      rw [List.all_cons, Bool.and_eq_true] at ht
      obtain ⟨a1, a2⟩ := List.pairwise_cons.mp ha
      unfold keysT at h
      split at h
      · rename_i k ks h1 h2
        cases h
        obtain ⟨n, m⟩ := ih ht.2 a2 h2
        refine ⟨List.nodup_cons.mpr ⟨fun z => ?_, n⟩, fun q hq => ?_⟩
        · obtain ⟨d', hd', e'⟩ := m _ z
          obtain ⟨_, _, k1, _⟩ := keyT_some h1
          obtain ⟨_, _, k2, _⟩ := keyT_some e'
          have := key_py ht.1 (List.all_eq_true.mp ht.2 d' hd') k1 k2
          subst this
          have tt := dle_total d d
          rw [Bool.or_self] at tt
          exact a1 d hd' ⟨tt, tt⟩
        · rcases List.mem_cons.mp hq with rfl | hq
          · exact ⟨d, List.mem_cons_self, h1⟩
          · obtain ⟨d', hd', e'⟩ := m q hq
            exact ⟨d', List.mem_cons_of_mem _ hd', e'⟩
      · cases h
  exact (go ht ha hk).1
theorem dist_of : ∀ {xs : List V} {l : List D}, l.Pairwise Apart → Dist (xs.zip (l.map D.py))
  | [], _, _ => fun a ha => by simp at ha
  | _ :: _, [], _ => fun a ha => by simp at ha
  | x :: xs, d :: l, h => by
    obtain ⟨h1, h2⟩ := List.pairwise_cons.mp h
    have ih := dist_of (xs := xs) h2
    have side : ∀ b ∈ xs.zip (l.map D.py), ¬ (dataLe false (·.2) (x, d.py) b = true ∧ dataLe false (·.2) b (x, d.py) = true) := fun b hb z => by
      obtain ⟨d', hd', e⟩ := List.mem_map.mp (List.of_mem_zip (show (b.1, b.2) ∈ _ from hb)).2
      refine h1 d' hd' ?_
      unfold dataLe at z ⊢
      simp only [sortLe] at z ⊢
      rw [e]
      exact z
    intro a ha b hb z1 z2
    rw [List.map_cons, List.zip_cons_cons] at ha hb
    rcases List.mem_cons.mp ha with rfl | ha
    · rcases List.mem_cons.mp hb with rfl | hb
      · rfl
      · exact absurd ⟨z1, z2⟩ (side b hb)
    · rcases List.mem_cons.mp hb with rfl | hb
      · exact absurd ⟨z2, z1⟩ (side a ha)
      · exact ih a ha b hb z1 z2
theorem perm_has {ks L : NL} (g : Has ks ks.length L) (nk : (ks.map (·.2)).Nodup) (nl : (L.map (·.2)).Nodup) : L.Perm ks := by
  have sub : ∀ p ∈ L, p ∈ ks := fun p hp => List.mem_of_mem_take (g.sub p hp)
  have inj : ∀ {ks : NL}, (ks.map (·.2)).Nodup → ∀ p ∈ ks, ∀ q ∈ ks, p.2 = q.2 → p = q := by
    intro ks
    induction ks with
    | nil => exact fun _ p hp => by cases hp
    | cons a ks ih =>
      intro n p hp q hq e
      rw [List.map_cons, List.nodup_cons] at n
      rcases List.mem_cons.mp hp with rfl | hp
      · rcases List.mem_cons.mp hq with z | hq
        · exact z.symm
        · exact absurd (List.mem_map.mpr ⟨q, hq, e.symm⟩) n.1
      · rcases List.mem_cons.mp hq with z | hq
        · rw [z] at e
          exact absurd (List.mem_map.mpr ⟨p, hp, e⟩) n.1
        · exact ih n.2 p hp q hq e
  refine (List.perm_ext_iff_of_nodup (nodup_of_map nl) (nodup_of_map nk)).mpr fun p => ⟨sub p, fun hp => ?_⟩
  obtain ⟨q, hq, e⟩ := List.mem_map.mp (g.all p (by rw [List.take_length]; exact hp))
  rw [← inj nk q (sub q hq) p hp e]
  exact hq
theorem de_sortedSetT {a : Expr} {fs : G (List D)} {p p2 q pos : Pos} (hc : X.calm = true) (hu : X.A.units + 64 < cLine) (hg : Gl X "sorted") (hm : X.mg "sorted" = none) (hg2 : Gl X "set") (hm2 : X.mg "set" = none) (ha : DA X W [a] fs)
    (hs1 : starEach [a] X.env = (false, eval a X.env) :: starEach [] X.env := by rfl) (hpl : (backTo q (starEach [] X.env)).any (·.1) = false := by rfl) (hpl2 : (backTo pos (starEach [] X.env)).any (·.1) = false := by rfl) :
    DE X W (.Call (.Name "sorted" p) [.Call (.Name "set" p2) [a] [] q] [] pos) (gCB mSortSetL fs) := by
  have hset := pe_callTy (X := X) (x := "set") (T := "set") (p := p2) (pos := q) (cr_setM hc (by omega)) hg2 hm2 (by kernel_rfl) ha (by decide) (by decide) hs1 hpl
  have hsrt := pe_callB (X := X) (x := "sorted") (id := "sorted") (p := p) (pos := pos) (cr_srtM hc hu) hg hm (by kernel_rfl) (pa_cons hset pa_nil rfl) (by decide) (by decide) rfl hpl2
  refine PEmono hsrt fun σ H Q h => ?_
  obtain ⟨β, ρ, st, hρ, hs, h⟩ := h
  refine tDA_intro hρ hs (Out.sat_bind h) (fun ds s1 h1 vs β1 H1 e1 S1 r1 => ?_) fun _ _ q => q
  obtain ⟨d3, e, pq⟩ := oout_sat h1
  have one : ∃ l, ds = [.tup l] ∧ mSortSet (.tup l) s1 = some d3 := by
    cases ds with
    | nil => cases e
    | cons d ds =>
      cases ds with
      | cons d' ds => cases e
      | nil =>
        cases d with
        | tup l => exact ⟨l, rfl, e⟩
        | _ => simp only [mSortSetL, mSortSet, reduceCtorEq] at e
  obtain ⟨l, rfl, e'⟩ := one
  simp only [mSortSet] at e'
  split at e'
  · rename_i hz
    cases e'
    obtain ⟨hT, h256, hkk, hst⟩ := hz
    obtain ⟨kk, hkk⟩ := Option.isSome_iff_exists.mp hkk
    obtain ⟨v, rfl, rk⟩ := r1.one
    cases rk with
    | tup g1 g2 g3 =>
      obtain ⟨NLs, eN, eK, eL, hN2⟩ := nlM_of g2 hkk
      have ap := apart_of hst
      have nk : (NLs.map (·.2)).Nodup := nd_keys hT ap (by rw [hkk, eK])
      refine ⟨_, NLs, rfl, eN ▸ g1, fun p hp => ?_, by omega, fun a' L hna hHas nl => ?_⟩
      · obtain ⟨d0, _, r0, k0⟩ := hN2 p hp
        exact keyM_of r0 k0
      have ex2 : Ext β1 H1 β1 (upd H1 a' (SMO X.prog X.w a' L)) := Ext.new hna
      have g2' : Reps (zOf X) β1 (upd H1 a' (SMO X.prog X.w a' L)) (NLs.map fun p => V.ref p.1) l := by
        rw [← eN]
        exact Reps.ext ex2 _ _ g2
      refine ⟨a', L, NLs, l.map D.py, rfl, upd_same, perm_has hHas nk nl, fun p hp => ?_, srt_askT hT g2', dist_of ap, fun p' hp' => ?_⟩
      · obtain ⟨d0, _, r0, k0⟩ := hN2 p (List.mem_of_mem_take (hHas.sub p hp))
        exact keyM_of (Rep.ext ex2 _ _ r0) k0
      · have ex3 : Ext β1 (upd H1 a' (SMO X.prog X.w a' L)) β1 (upd (upd H1 a' (SMO X.prog X.w a' L)) p' (.lst ((srtB ((NLs.map fun p => V.ref p.1).zip (l.map D.py))).map (·.1)))) := Ext.new hp'
        have S2 := S1.fresh (o := SMO X.prog X.w a' L) hna
        have rs := reps_srt g2'
        rw [sortD_ins] at rs
        refine pq _ β1 _ ((e1.trans ex2).trans ex3) (S2.fresh hp') (.lst upd_same (S2.nmem hp') (Reps.ext ex3 _ _ rs) ?_)
        rw [← sortD_ins, sortD_len, sizeLine_eq]
        omega
  · cases e'
end
end DL

set_option Elab.async false
set_option linter.all false
set_option maxRecDepth 100000
set_option maxHeartbeats 2000000
/-! # The end of a def does not look at the head of a written list: it may be run with any value there -/
namespace DL
open PySem PySem.Spec L2
open PyProof.Rows hiding St
def HidOk (n : Nat) (g : G Fl) (ρ : Env) (st : Sto) (r : List D) (t : D × Sto × List D) : Prop := n < t.2.1.length ∧ ∀ v : V, g ρ (st.set n (.lst (.raw v :: r))) = .ok (.rt t.1) (t.2.1.set n (.lst (.raw v :: t.2.2)))
noncomputable def gHid (n : Nat) (g : G Fl) : G Fl := fun ρ st => open Classical in
  match st[n]? with
  | some (.lst (sc :: r)) => if h : ∃ t, HidOk n g ρ st r t then .ok (.rt h.choose.1) (h.choose.2.1.set n (.lst (sc :: h.choose.2.2))) else .bad
  | _ => .bad
theorem hid_at {n : Nat} {g : G Fl} {ρ : Env} {st s2 : Sto} {sc d : D} {r r' : List D} (h0 : st[n]? = some (.lst (sc :: r))) (hn : n < s2.length) (h : ∀ v : V, g ρ (st.set n (.lst (.raw v :: r))) = .ok (.rt d) (s2.set n (.lst (.raw v :: r')))) : ∃ s3, gHid n g ρ st = .ok (.rt d) s3 := by
  have hx : ∃ t, HidOk n g ρ st r t := ⟨(d, s2, r'), hn, h⟩
  unfold gHid
  simp only [h0, dif_pos hx]
  have e := hx.choose_spec.2 .non
  generalize hx.choose = t at e ⊢
  rw [h .non] at e
  injection e with e1 e2
  injection e1 with e1
  rw [← e1]
  exact ⟨_, rfl⟩
section
variable {K : Zx} {β : Bx} {H : Hp}
theorem sto_putR {st : Sto} (S : StoOk K β H st) {n : Nat} {o o' : SO} (h : st[n]? = some o) (r : ∀ a, β.lo[n]? = some a → SORel K β H a o → SORel K β H a o') : StoOk K β H (st.set n o') := by
  have hl : n < st.length := (List.getElem?_eq_some_iff.mp h).1
  refine ⟨by rw [List.length_set]; exact S.len, S.nd, fun m a u h1 h2 => ?_, S.priv⟩
  by_cases e : n = m
  · subst e
    rw [List.getElem?_set_self hl] at h2
    cases h2
    exact r a h1 (S.obj n a o h1 h)
  · rw [List.getElem?_set_ne e] at h2
    exact S.obj m a u h1 h2
end
theorem dss_hid {X : Cx} {W : WX} {ss : List Stmt} {g : G Fl} (n : Nat) (hg : DSs X W ss g) : DSs X W ss (gHid n g) := by
  refine PSsmono hg fun D' σ H h => ?_
  obtain ⟨β, ρ, st, hρ, hs, h⟩ := h
  unfold gHid at h
  split at h
  · rename_i sc r h0
    split at h
    · rename_i hx
      have sp := hx.choose_spec
      generalize hx.choose = t at h sp
      obtain ⟨d, s2, r'⟩ := t
      obtain ⟨hn, sp⟩ := sp
      have hl : n < β.lo.length := by rw [hs.len]; exact (List.getElem?_eq_some_iff.mp h0).1
      have ha : β.lo[n]? = some β.lo[n] := List.getElem?_eq_getElem hl
      have ro := hs.obj n _ _ ha h0
      obtain ⟨xs, hH, rr⟩ := ro
      cases rr with
      | @cons v vs _ _ r1 r2 =>
        refine ⟨β, ρ, st.set n (.lst (.raw v :: r)), hρ, sto_putR hs h0 fun a e _ => ?_, ?_⟩
        · rw [ha] at e
          cases e
          exact ⟨_, hH, .cons (.raw v) r2⟩
        · rw [sp v]
          show ∀ w β' H', Ext β H β' H' → StoOk (zOf X) β' H' _ → Rep (zOf X) β' H' w d → D'.rt w H'
          intro w β' H' e S' r0
          refine h w β' H' e ?_ r0
          have h3 : (s2.set n (.lst (.raw v :: r')))[n]? = some (.lst (.raw v :: r')) := List.getElem?_set_self hn
          have := sto_putR (o' := .lst (sc :: r')) S' h3 fun a _ q => by
            obtain ⟨ys, q1, q2⟩ := q
            cases q2 with
            | cons q3 q4 =>
              cases q3
              exact ⟨_, q1, .cons (Rep.ext e sc v r1) q4⟩
          rw [List.set_set] at this
          exact this
    · exact h.elim
  · exact h.elim
end DL

set_option Elab.async false
set_option linter.all false
set_option maxRecDepth 100000
set_option maxHeartbeats 2000000
/-! # What an expression made and nobody holds is forgotten -/
namespace DL
open PySem PySem.Spec L2
open PyProof.Rows hiding St
mutual
def D.lo (k : Nat) : D → Bool
  | .tup l => dsLo k l
  | .lst l => dsLo k l
  | .ro l => dsLo k l
  | .clo _ l => dsLo k l
  | .ref n => Nat.blt n k
  | _ => true
def dsLo (k : Nat) : List D → Bool
  | [] => true
  | d :: r => D.lo k d && dsLo k r
end
def SO.lo (k : Nat) : SO → Bool
  | .lst l => dsLo k l
  | .dK l => dsLo k (l.map (·.2))
  | .dN l => dsLo k (l.map (·.1)) && dsLo k (l.map (·.2))
  | .fN l => dsLo k (l.map (·.1)) && dsLo k (l.map (·.2))
  | .ins _ l => dsLo k (l.map (·.2))
  | .tab _ _ => true
section
variable {K : Zx} {β β' : Bx} {H : Hp} {k : Nat}
/-- fewer things are known -/
structure Fewer (k : Nat) (β' β : Bx) : Prop where
  mem : ∀ (n : Nat) (a : Addr), n < k → β'.lo[n]? = some a → β.lo[n]? = some a
  fre : ∀ a, β'.fre a → β.fre a
mutual
theorem Rep.fewer (e : Fewer k β' β) : ∀ (d : D) (v : V), D.lo k d = true → Rep K β' H v d → Rep K β H v d
  | .non, _, _, h => by cases h; exact .non
  | .bl _, _, _, h => by cases h; exact .bl _
  | .int _, _, _, h => by cases h; exact .int _
  | .str _, _, _, h => by cases h; exact .str _
  | .tup ds, _, c, h => by cases h with | tup hs ha hl => exact .tup hs (Reps.fewer e ds _ c ha) hl
  | .lst ds, _, c, h => by cases h with | lst hs hn ha hl => exact .lst hs (e.fre _ hn) (Reps.fewer e ds _ c ha) hl
  | .ro ds, _, c, h => by cases h with | ro hs ha hl => exact .ro hs (Reps.fewer e ds _ c ha) hl
  | .ref n, _, c, h => by cases h with | ref hm => exact .ref (e.mem _ _ (by have c : Nat.blt n k = true := c; simpa [Nat.blt_eq] using c) hm)
  | .raw _, _, _, h => by cases h; exact .raw _
  | .clo _ ds, _, c, h => by cases h with | clo h1 h2 h3 h4 h5 => exact .clo h1 h2 h3 h4 (Reps.fewer e ds _ c h5)
theorem Reps.fewer (e : Fewer k β' β) : ∀ (ds : List D) (vs : List V), dsLo k ds = true → Reps K β' H vs ds → Reps K β H vs ds
  | [], _, _, h => by cases h; exact .nil
  | d :: ds, _, c, h => by
    have c : (D.lo k d && dsLo k ds) = true := c
    rw [Bool.and_eq_true] at c
    cases h with | cons h1 h2 => exact .cons (Rep.fewer e d _ c.1 h1) (Reps.fewer e ds _ c.2 h2)
end
theorem SORel.fewer (e : Fewer k β' β) {a : Addr} {o : SO} (c : SO.lo k o = true) (h : SORel K β' H a o) : SORel K β H a o := by
  cases o with
  | lst ds =>
    obtain ⟨xs, h1, h2⟩ := h
    exact ⟨xs, h1, Reps.fewer e _ _ c h2⟩
  | dK kvs =>
    obtain ⟨vs, h1, h2, h3, h4⟩ := h
    exact ⟨vs, h1, h2, h3, Reps.fewer e _ _ c h4⟩
  | tab d q => exact h
  | dN kvs =>
    have c : (dsLo k (kvs.map (·.1)) && dsLo k (kvs.map (·.2))) = true := c
    rw [Bool.and_eq_true] at c
    obtain ⟨es, h1, h2, h3, h4, h5⟩ := h
    exact ⟨es, h1, h2, h3, Reps.fewer e _ _ c.1 h4, Reps.fewer e _ _ c.2 h5⟩
  | ins c' fs =>
    obtain ⟨C, dx, vs, h1, h2, h3, h4⟩ := h
    exact ⟨C, dx, vs, h1, h2, h3, Reps.fewer e _ _ c h4⟩
  | fN kvs =>
    have c : (dsLo k (kvs.map (·.1)) && dsLo k (kvs.map (·.2))) = true := c
    rw [Bool.and_eq_true] at c
    obtain ⟨o, es, h1, h2, h3, h4, h5⟩ := h
    exact ⟨o, es, h1, h2, h3, Reps.fewer e _ _ c.1 h4, Reps.fewer e _ _ c.2 h5⟩
theorem ext_back {β' : Bx} {H' : Hp} (e : Ext β H β' H') : Ext β H β H' :=
  ⟨⟨[], by simp, by simp⟩, rfl, e.keep, e.tup, e.frz, e.dom, e.cod⟩
theorem sto_back {st s2 : Sto} {β' : Bx} {H' : Hp} (S : StoOk K β H st) (e : Ext β H β' H') (S' : StoOk K β' H' s2) (c : (s2.take st.length).all (SO.lo st.length) = true) : StoOk K β H' (s2.take st.length) ∧ Fewer st.length β' β := by
  obtain ⟨new, e1, f⟩ := e.pre
  have hl := S.len
  have hl' : st.length ≤ s2.length := by rw [← S'.len, e1, ← hl]; simp
  have F : Fewer st.length β' β := ⟨fun n a hn h => by
    rw [e1, List.getElem?_append_left (by omega)] at h
    exact h, fun a h => ⟨fun z => h.1 (by rw [e1]; exact List.mem_append_left _ z), by rw [← e.pv]; exact h.2⟩⟩
  refine ⟨⟨by rw [List.length_take, hl]; omega, S.nd, fun n a o h1 h2 => ?_, fun p hp => S'.priv p (by rw [e.pv]; exact hp)⟩, F⟩
  have hn : n < st.length := by rw [← hl]; exact (List.getElem?_eq_some_iff.mp h1).1
  have c' := List.all_eq_true.mp c o (List.mem_of_getElem? h2)
  rw [List.getElem?_take_of_lt hn] at h2
  refine SORel.fewer F c' (S'.obj n a o ?_ h2)
  rw [e1, List.getElem?_append_left (by omega)]
  exact h1
end
def trimO (k : Nat) (d : D) (s2 : Sto) : Out D := if (D.lo k d && (s2.take k).all (SO.lo k)) = true then .ok d (s2.take k) else .ok d s2
def gTrim (f : G D) : G D := fun ρ st => (f ρ st).bind (trimO st.length)
theorem de_trim {X : Cx} {W : WX} {e : Expr} {f : G D} (h : DE X W e f) : DE X W e (gTrim f) := by
  refine PEmono h fun σ H Q q => ?_
  obtain ⟨β, ρ, st, hρ, hs, q⟩ := q
  refine ⟨β, ρ, st, hρ, hs, ?_⟩
  unfold gTrim at q
  cases e : f ρ st with
  | bad =>
    rw [e] at q
    exact q.elim
  | exn x s2 =>
    rw [e] at q
    exact q
  | ok d s2 =>
    rw [e] at q
    have q : (trimO st.length d s2).sat (PostV (zOf X) Q β H) (PostX (zOf X) X.mg (fun c d H' => W c d σ H') β H) := q
    unfold trimO at q
    split at q
    · rename_i hc
      rw [Bool.and_eq_true] at hc
      show PostV (zOf X) Q β H d s2
      intro v β' H' e' S' r
      obtain ⟨S2, F⟩ := sto_back hs e' S' hc.2
      exact q v β H' (ext_back e') S2 (Rep.fewer F d v hc.1 r)
    · exact q
end DL

set_option Elab.async false
set_option linter.all false
set_option maxRecDepth 100000
set_option maxHeartbeats 2000000
namespace K06
open PySem PySem.Spec L2 DL
open PyProof.Rows hiding St
open LamX hiding takes0
abbrev P : Program := PySem.Challenge.pw_pairskept_k06_whole_normals
def topS (i : Nat) : Stmt := PySem.Challenge.pw_pairskept_k06_whole_normals.main.body.getD i (.Pass ⟨0, 0, 0, 0⟩)
def clsS (i j : Nat) : Stmt := match topS i with
  | .ClassDef _ _ _ body _ _ _ _ _ _ _ => body.getD j (.Pass ⟨0, 0, 0, 0⟩)
  | s => s
abbrev s__law_alike : Stmt := topS 23
abbrev N__law_alike : List Str := ["found", "due", "k"]
theorem sc__law_alike : FnScope N__law_alike ["found", "due"] (defScope s__law_alike) := ⟨rfl, rfl, rfl, by decide +kernel, rfl, by decide +kernel, by decide +kernel⟩
abbrev s__law_taken : Stmt := topS 21
abbrev N__law_taken : List Str := ["row", "many", "found", "cell"]
theorem sc__law_taken : FnScope N__law_taken ["row", "many"] (defScope s__law_taken) := ⟨rfl, rfl, rfl, by decide +kernel, rfl, by decide +kernel, by decide +kernel⟩
abbrev s__law_design : Stmt := topS 24
abbrev N__law_design : List Str := ["row", "word"]
theorem sc__law_design : FnScope N__law_design ["row"] (defScope s__law_design) := ⟨rfl, rfl, rfl, by decide +kernel, rfl, by decide +kernel, by decide +kernel⟩
abbrev s__law_pick : Stmt := topS 22
abbrev N__law_pick : List Str := ["row", "kinds"]
theorem sc__law_pick : FnScope N__law_pick ["row", "kinds"] (defScope s__law_pick) := ⟨rfl, rfl, rfl, by decide +kernel, rfl, by decide +kernel, by decide +kernel⟩
abbrev s__law_near : Stmt := topS 25
abbrev N__law_near : List Str := ["row", "design", "words", "turned", "turn", "word"]
theorem sc__law_near : FnScope N__law_near ["row", "design"] (defScope s__law_near) := ⟨rfl, rfl, rfl, by decide +kernel, rfl, by decide +kernel, by decide +kernel⟩
abbrev s__law_normal : Stmt := topS 26
abbrev N__law_normal : List Str := ["design", "found", "quiet", "word"]
theorem sc__law_normal : FnScope N__law_normal ["design"] (defScope s__law_normal) := ⟨rfl, rfl, rfl, by decide +kernel, rfl, by decide +kernel, by decide +kernel⟩
abbrev s_is_design : Stmt := topS 5
abbrev N_is_design : List Str := ["value", "word"]
theorem sc_is_design : FnScope N_is_design ["value"] (defScope s_is_design) := ⟨rfl, rfl, rfl, by decide +kernel, rfl, by decide +kernel, by decide +kernel⟩
abbrev s_check_design : Stmt := topS 6
abbrev N_check_design : List Str := ["value"]
theorem sc_check_design : FnScope N_check_design ["value"] (defScope s_check_design) := ⟨rfl, rfl, rfl, by decide +kernel, rfl, by decide +kernel, by decide +kernel⟩
abbrev s_hides_own : Stmt := topS 15
abbrev N_hides_own : List Str := ["one", "other"]
theorem sc_hides_own : FnScope N_hides_own ["one", "other"] (defScope s_hides_own) := ⟨rfl, rfl, rfl, by decide +kernel, rfl, by decide +kernel, by decide +kernel⟩
abbrev s_keeps_guarded_readings : Stmt := topS 14
abbrev N_keeps_guarded_readings : List Str := ["design"]
theorem sc_keeps_guarded_readings : FnScope N_keeps_guarded_readings ["design"] (defScope s_keeps_guarded_readings) := ⟨rfl, rfl, rfl, by decide +kernel, rfl, by decide +kernel, by decide +kernel⟩
abbrev s_keeps_guarded_writings : Stmt := topS 13
abbrev N_keeps_guarded_writings : List Str := ["design"]
theorem sc_keeps_guarded_writings : FnScope N_keeps_guarded_writings ["design"] (defScope s_keeps_guarded_writings) := ⟨rfl, rfl, rfl, by decide +kernel, rfl, by decide +kernel, by decide +kernel⟩
abbrev s_is_below : Stmt := topS 12
abbrev N_is_below : List Str := ["one", "other", "word"]
theorem sc_is_below : FnScope N_is_below ["one", "other"] (defScope s_is_below) := ⟨rfl, rfl, rfl, by decide +kernel, rfl, by decide +kernel, by decide +kernel⟩
abbrev s_alike : Stmt := topS 11
abbrev N_alike : List Str := ["one", "other"]
theorem sc_alike : FnScope N_alike ["one", "other"] (defScope s_alike) := ⟨rfl, rfl, rfl, by decide +kernel, rfl, by decide +kernel, by decide +kernel⟩
abbrev s_all_designs : Stmt := topS 7
abbrev N_all_designs : List Str := ["found", "word", "design"]
theorem sc_all_designs : FnScope N_all_designs [] (defScope s_all_designs) := ⟨rfl, rfl, rfl, by decide +kernel, rfl, by decide +kernel, by decide +kernel⟩
abbrev s_below : Stmt := topS 10
abbrev N_below : List Str := ["one", "other"]
theorem sc_below : FnScope N_below ["one", "other"] (defScope s_below) := ⟨rfl, rfl, rfl, by decide +kernel, rfl, by decide +kernel, by decide +kernel⟩
abbrev s_is_held_by_normal : Stmt := topS 19
abbrev N_is_held_by_normal : List Str := ["design", "word"]
theorem sc_is_held_by_normal : FnScope N_is_held_by_normal ["design", "word"] (defScope s_is_held_by_normal) := ⟨rfl, rfl, rfl, by decide +kernel, rfl, by decide +kernel, by decide +kernel⟩
abbrev s_normal_of : Stmt := topS 18
abbrev N_normal_of : List Str := ["design", "word"]
theorem sc_normal_of : FnScope N_normal_of ["design"] (defScope s_normal_of) := ⟨rfl, rfl, rfl, by decide +kernel, rfl, by decide +kernel, by decide +kernel⟩
abbrev s_normal : Stmt := topS 16
abbrev N_normal : List Str := ["design"]
theorem sc_normal : FnScope N_normal ["design"] (defScope s_normal) := ⟨rfl, rfl, rfl, by decide +kernel, rfl, by decide +kernel, by decide +kernel⟩
abbrev s_normals : Stmt := topS 17
abbrev N_normals : List Str := ["design"]
theorem sc_normals : FnScope N_normals [] (defScope s_normals) := ⟨rfl, rfl, rfl, by decide +kernel, rfl, by decide +kernel, by decide +kernel⟩
abbrev s_law : Stmt := topS 27
abbrev N_law : List Str := ["script", "row", "one", "other", "due", "some", "whole", "top", "bottom", "design"]
theorem sc_law : FnScope N_law ["script"] (defScope s_law) := ⟨rfl, rfl, rfl, by decide +kernel, rfl, by decide +kernel, by decide +kernel⟩
def c_WORDS : D := .tup [.str "gr", .str "gw", .str "own", .str "rr", .str "rw", .str "ss", .str "wr", .str "ww"]
def c_KEEPING : D := .tup [.str "rr", .str "rw", .str "wr", .str "ww", .str "ss"]
def g__law_alike (rec : List D → Sto → Out D) : G Fl :=
  (sSeq (sIf (gTr (gCB mIsiT (aCons (gVar 1) (aCons (gTupD (aCons (gC (.raw (.ty "tuple"))) (aCons (gC (.raw (.ty "list"))) aNil))) aNil)))) (sSeq (sIf (gTOr (gTNot (gTr (gCB mIsiT (aCons (gVar 0) (aCons (gTupD (aCons (gC (.raw (.ty "tuple"))) (aCons (gC (.raw (.ty "list"))) aNil))) aNil))))) (gBl (gOp mNe (gCB mIsi (aCons (gVar 0) (aCons (gC (.raw (.ty "list"))) aNil))) (gCB mIsi (aCons (gVar 1) (aCons (gC (.raw (.ty "list"))) aNil)))))) (sRet (gC (.bl false))) sNext) (sSeq (sIf (gBl (gOp mNe (gCB mLen (aCons (gVar 0) aNil)) (gCB mLen (aCons (gVar 1) aNil)))) (sRet (gC (.bl false))) sNext) (sRet (gOp mEq (gComp [2] (gRange1 (aCons (gCB mLen (aCons (gVar 1) aNil)) aNil)) (.nm 2) (gTNot (gTr (gCall rec (aCons (gOp mIx (gVar 0) (gVar 2)) (aCons (gOp mIx (gVar 1) (gVar 2)) aNil))))) (gVar 2)) (gLstD aNil))))) sNext) (sSeq (sIf (gTOr (gBl (gOp mIs (gVar 1) (gC .non))) (gTr (gCB mIsi (aCons (gVar 1) (aCons (gC (.raw (.ty "str"))) aNil))))) (sRet (gAnd (gOp mEq (gVar 0) (gVar 1)) (gOp mEq (gCB mIsi (aCons (gVar 0) (aCons (gC (.raw (.ty "str"))) aNil))) (gCB mIsi (aCons (gVar 1) (aCons (gC (.raw (.ty "str"))) aNil)))))) sNext) (sRet (gAnd (gCB mIsi (aCons (gVar 0) (aCons (gC (.raw (.ty "int"))) aNil))) (gAnd (gOp mEq (gCB mIsi (aCons (gVar 0) (aCons (gC (.raw (.ty "bool"))) aNil))) (gCB mIsi (aCons (gVar 1) (aCons (gC (.raw (.ty "bool"))) aNil)))) (gOp mEq (gVar 0) (gVar 1)))))))
def m__law_alike : Nat → List D → Sto → Out D
  | 0 => gFun 3 sBad
  | n + 1 => gFun 3 (g__law_alike (m__law_alike n))
def g__law_taken : G Fl :=
  (sSeq (sIf (gBl (gOp mGt (gOp mIx (gVar 0) (gC (.int 3))) (gC (.int 0)))) (sSeq (sSet 2 (gOp mMod (gCB mInt (aCons (gOp mIx (gVar 0) (gC (.int 3))) aNil)) (gVar 1))) (sSeq (sPut (gVar 0) (gC (.int 3)) (gOp mFdiv (gOp mIx (gVar 0) (gC (.int 3))) (gVar 1))) (sRet (gVar 2)))) sNext) (sSeq (sPut (gVar 0) (gC (.int 1)) (gOp mAdd (gOp mIx (gVar 0) (gC (.int 1))) (gC (.int 1)))) (sSeq (sIf (gBl (gOp mGt (gOp mIx (gVar 0) (gC (.int 1))) (gCB mLen (aCons (gOp mIx (gVar 0) (gC (.int 0))) aNil)))) (sSeq (sPut (gVar 0) (gC (.int 2)) (gOp mMod (gCB mInt (aCons (gOp mAdd (gOp mMul (gOp mIx (gVar 0) (gC (.int 2))) (gC (.int 48271))) (gC (.int 11))) aNil)) (gC (.int 2147483647)))) (sRet (gOp mMod (gCB mInt (aCons (gOp mFdiv (gOp mIx (gVar 0) (gC (.int 2))) (gC (.int 7))) aNil)) (gVar 1)))) sNext) (sSeq (sSet 3 (gOp mIx (gOp mIx (gVar 0) (gC (.int 0))) (gOp mSub (gOp mIx (gVar 0) (gC (.int 1))) (gC (.int 1))))) (sSeq (sPut (gVar 0) (gC (.int 2)) (gOp mMod (gCB mInt (aCons (gOp mAdd (gOp mAdd (gOp mMul (gOp mIx (gVar 0) (gC (.int 2))) (gC (.int 48271))) (gVar 3)) (gC (.int 11))) aNil)) (gC (.int 2147483647)))) (sSeq (sIf (gBl (gOp mGe (gVar 3) (gOp mPow (gC (.int 10)) (gC (.int 18))))) (sPut (gVar 0) (gC (.int 3)) (gOp mFdiv (gVar 3) (gVar 1))) sNext) (sRet (gOp mMod (gCB mInt (aCons (gVar 3) aNil)) (gVar 1)))))))))
def m__law_taken : List D → Sto → Out D := gFun 4 g__law_taken
def g__law_design : G Fl :=
  (sRet (gCB mTuple (aCons (gComp [1] (gSeq (gLstD (aCons (gC (.str "gr")) (aCons (gC (.str "gw")) (aCons (gC (.str "own")) (aCons (gC (.str "rr")) (aCons (gC (.str "rw")) (aCons (gC (.str "ss")) (aCons (gC (.str "wr")) (aCons (gC (.str "ww")) aNil)))))))))) (.nm 1) (gBl (gOp mEq (gCall m__law_taken (aCons (gVar 0) (aCons (gC (.int 2)) aNil))) (gC (.int 0)))) (gVar 1)) aNil)))
def m__law_design : List D → Sto → Out D := gFun 2 g__law_design
def g__law_pick : G Fl :=
  (sRet (gOp mIx (gVar 1) (gCall m__law_taken (aCons (gVar 0) (aCons (gCB mLen (aCons (gVar 1) aNil)) aNil)))))
def m__law_pick : List D → Sto → Out D := gFun 2 g__law_pick
def g__law_near : G Fl :=
  (sSeq (sSet 2 (gLstD (aCons (gC (.str "gr")) (aCons (gC (.str "gw")) (aCons (gC (.str "own")) (aCons (gC (.str "rr")) (aCons (gC (.str "rw")) (aCons (gC (.str "ss")) (aCons (gC (.str "wr")) (aCons (gC (.str "ww")) aNil)))))))))) (sSeq (sSet 3 (gComp [4] (gRange1 (aCons (gCall m__law_taken (aCons (gVar 0) (aCons (gC (.int 3)) aNil))) aNil)) (.nm 4) gYes (gCall m__law_pick (aCons (gVar 0) (aCons (gVar 2) aNil))))) (sRet (gCB mTuple (aCons (gComp [5] (gSeq (gVar 2)) (.nm 5) (gBl (gOp mNe (gOp (mIn false) (gVar 5) (gVar 1)) (gOp (mIn false) (gVar 5) (gVar 3)))) (gVar 5)) aNil)))))
def m__law_near : List D → Sto → Out D := gFun 6 g__law_near
def g__law_normal : G Fl :=
  (sSeq (sSet 1 (gCB mList (aCons (gVar 0) aNil))) (sSeq (sSet 1 (gOp mAdd (gVar 1) (gOp mMul (gLstD (aCons (gC (.str "gw")) aNil)) (gCB mInt (aCons (gAnd (gOp (mIn false) (gC (.str "rw")) (gVar 0)) (gOp (mIn true) (gC (.str "gw")) (gVar 0))) aNil))))) (sSeq (sSet 1 (gOp mAdd (gVar 1) (gOp mMul (gLstD (aCons (gC (.str "gr")) aNil)) (gCB mInt (aCons (gAnd (gOp (mIn false) (gC (.str "rr")) (gVar 0)) (gAnd (gOp (mIn false) (gC (.str "ss")) (gVar 0)) (gOp (mIn true) (gC (.str "gr")) (gVar 0)))) aNil))))) (sSeq (sSet 2 (gAnd (gOp (mIn false) (gC (.str "ww")) (gVar 0)) (gOr (gOp (mIn false) (gC (.str "wr")) (gVar 0)) (gAnd (gOp (mIn true) (gC (.str "rr")) (gVar 1)) (gOp (mIn true) (gC (.str "gr")) (gVar 1)))))) (sRet (gCB mTuple (aCons (gCB mSortS (aCons (gComp [3] (gSeq (gVar 1)) (.nm 3) (gTOr (gBl (gOp mNe (gVar 3) (gC (.str "own")))) (gTNot (gTr (gVar 2)))) (gVar 3)) aNil)) aNil)))))))
def m__law_normal : List D → Sto → Out D := gFun 4 g__law_normal
def g_is_design : G Fl :=
  (sRet (gAnd (gCB mIsi (aCons (gVar 0) (aCons (gC (.raw (.ty "tuple"))) aNil))) (gOp mEq (gVar 0) (gCB mTuple (aCons (gComp [1] (gSeq (gC c_WORDS)) (.nm 1) (gBl (gOp (mIn false) (gVar 1) (gVar 0))) (gVar 1)) aNil)))))
def m_is_design : List D → Sto → Out D := gFun 2 g_is_design
def g_check_design : G Fl :=
  (sIf (gTNot (gTr (gCall m_is_design (aCons (gVar 0) aNil)))) sBad sNext)
def m_check_design : List D → Sto → Out D := gFun 1 g_check_design
def g_hides_own : G Fl :=
  (sSeq (sIf (gBl (gOp (mIn true) (gC (.str "ww")) (gVar 0))) (sRet (gC (.bl false))) sNext) (sRet (gOr (gOp (mIn false) (gC (.str "wr")) (gVar 0)) (gAnd (gOp (mIn true) (gC (.str "rr")) (gVar 1)) (gOp (mIn true) (gC (.str "gr")) (gVar 1))))))
def m_hides_own : List D → Sto → Out D := gFun 2 g_hides_own
def g_keeps_guarded_readings : G Fl :=
  (sRet (gOr (gOp (mIn false) (gC (.str "gr")) (gVar 0)) (gAnd (gOp (mIn false) (gC (.str "rr")) (gVar 0)) (gOp (mIn false) (gC (.str "ss")) (gVar 0)))))
def m_keeps_guarded_readings : List D → Sto → Out D := gFun 1 g_keeps_guarded_readings
def g_keeps_guarded_writings : G Fl :=
  (sRet (gOr (gOp (mIn false) (gC (.str "gw")) (gVar 0)) (gOp (mIn false) (gC (.str "rw")) (gVar 0))))
def m_keeps_guarded_writings : List D → Sto → Out D := gFun 1 g_keeps_guarded_writings
def g_is_below : G Fl :=
  (sSeq (sIf (gTr (gCB mAny (aCons (gComp [2] (gSeq (gC c_KEEPING)) (.nm 2) gYes (gAnd (gOp (mIn false) (gVar 2) (gVar 1)) (gOp (mIn true) (gVar 2) (gVar 0)))) aNil))) (sRet (gC (.bl false))) sNext) (sSeq (sIf (gTAnd (gBl (gOp (mIn false) (gC (.str "gw")) (gVar 1))) (gTNot (gTr (gCall m_keeps_guarded_writings (aCons (gVar 0) aNil))))) (sRet (gC (.bl false))) sNext) (sSeq (sIf (gTAnd (gBl (gOp (mIn false) (gC (.str "gr")) (gVar 1))) (gTNot (gTr (gCall m_keeps_guarded_readings (aCons (gVar 0) aNil))))) (sRet (gC (.bl false))) sNext) (sRet (gOr (gOp (mIn true) (gC (.str "own")) (gVar 0)) (gOr (gOp (mIn false) (gC (.str "own")) (gVar 1)) (gCall m_hides_own (aCons (gVar 0) (aCons (gVar 1) aNil)))))))))
def m_is_below : List D → Sto → Out D := gFun 3 g_is_below
def g_alike : G Fl :=
  (sSeq (sDrop (gCall m_check_design (aCons (gVar 0) aNil))) (sSeq (sDrop (gCall m_check_design (aCons (gVar 1) aNil))) (sRet (gAnd (gCall m_is_below (aCons (gVar 0) (aCons (gVar 1) aNil))) (gCall m_is_below (aCons (gVar 1) (aCons (gVar 0) aNil)))))))
def m_alike : List D → Sto → Out D := gFun 2 g_alike
def g_all_designs : G Fl :=
  (sSeq (sSet 0 (gLstD (aCons (gTupD aNil) aNil))) (sSeq (sFor (gSeq (gC c_WORDS)) (.nm 1) (sSet 0 (gOp mAdd (gVar 0) (gComp [2] (gSeq (gVar 0)) (.nm 2) gYes (gOp mAdd (gVar 2) (gTupD (aCons (gVar 1) aNil))))))) (sRet (gCB mTuple (aCons (gCB mSortTI (aCons (gVar 0) aNil)) aNil)))))
def m_all_designs : List D → Sto → Out D := gFun 3 g_all_designs
def g_below : G Fl :=
  (sSeq (sDrop (gCall m_check_design (aCons (gVar 0) aNil))) (sSeq (sDrop (gCall m_check_design (aCons (gVar 1) aNil))) (sRet (gCall m_is_below (aCons (gVar 0) (aCons (gVar 1) aNil))))))
def m_below : List D → Sto → Out D := gFun 2 g_below
def g_is_held_by_normal : G Fl :=
  (sSeq (sIf (gBl (gOp mEq (gVar 1) (gC (.str "gw")))) (sRet (gCall m_keeps_guarded_writings (aCons (gVar 0) aNil))) sNext) (sSeq (sIf (gBl (gOp mEq (gVar 1) (gC (.str "gr")))) (sRet (gCall m_keeps_guarded_readings (aCons (gVar 0) aNil))) sNext) (sSeq (sIf (gBl (gOp mEq (gVar 1) (gC (.str "own")))) (sRet (gAnd (gOp (mIn false) (gC (.str "own")) (gVar 0)) (gNot (gCall m_hides_own (aCons (gVar 0) (aCons (gVar 0) aNil)))))) sNext) (sRet (gOp (mIn false) (gVar 1) (gVar 0))))))
def m_is_held_by_normal : List D → Sto → Out D := gFun 2 g_is_held_by_normal
def g_normal_of : G Fl :=
  (sRet (gCB mTuple (aCons (gComp [1] (gSeq (gC c_WORDS)) (.nm 1) (gTr (gCall m_is_held_by_normal (aCons (gVar 0) (aCons (gVar 1) aNil)))) (gVar 1)) aNil)))
def m_normal_of : List D → Sto → Out D := gFun 2 g_normal_of
def g_normal : G Fl :=
  (sSeq (sDrop (gCall m_check_design (aCons (gVar 0) aNil))) (sRet (gCall m_normal_of (aCons (gVar 0) aNil))))
def m_normal : List D → Sto → Out D := gFun 1 g_normal
def g_normals : G Fl :=
  (sRet (gCB mTuple (aCons (gComp [0] (gSeq (gCall m_all_designs aNil)) (.nm 0) (gBl (gOp mEq (gCall m_normal_of (aCons (gVar 0) aNil)) (gVar 0))) (gVar 0)) aNil)))
def m_normals : List D → Sto → Out D := gFun 1 g_normals
noncomputable def g_law : G Fl :=
  (sSeq (sSet 1 (gLstM (aCons (gVar 0) (aCons (gC (.int 0)) (aCons (gC (.int 14246)) (aCons (gC (.int 0)) aNil)))))) (sSeq (sSet 2 (gCall m__law_design (aCons (gVar 1) aNil))) (sSeq (sSet 3 (gCall m__law_near (aCons (gVar 1) (aCons (gVar 2) aNil)))) (gHid 0 (sSeq (sSet 4 (gCall m__law_normal (aCons (gVar 2) aNil))) (sSeq (sIf (gTOr (gTNot (gTr (gCall (m__law_alike 4) (aCons (gCall m_normal (aCons (gVar 2) aNil)) (aCons (gVar 4) aNil))))) (gTOr (gBl (gOp mNe (gCall m_normal (aCons (gVar 4) aNil)) (gVar 4))) (gBl (gOp mIsNot (gCall m_alike (aCons (gVar 2) (aCons (gVar 4) aNil))) (gC (.bl true)))))) (sRet (gC (.bl false))) sNext) (sSeq (sIf (gTNot (gTr (gCall (m__law_alike 4) (aCons (gCall m_alike (aCons (gVar 2) (aCons (gVar 3) aNil))) (aCons (gOp mEq (gCall m__law_normal (aCons (gVar 2) aNil)) (gCall m__law_normal (aCons (gVar 3) aNil))) aNil))))) (sRet (gC (.bl false))) sNext) (sSeq (sSet 5 (gCall m_all_designs aNil)) (sSeq (sIf (gTOr (gBl (gOp mNe (gCB mLen (aCons (gVar 5) aNil)) (gC (.int 256)))) (gTOr (gBl (gOp mNe (gVar 5) (gCB mTuple (aCons (gCB mSortSetL (aCons (gVar 5) aNil)) aNil)))) (gTOr (gBl (gOp (mIn true) (gVar 2) (gVar 5))) (gBl (gOp mIsNot (gCall m_is_design (aCons (gVar 3) aNil)) (gC (.bl true))))))) (sRet (gC (.bl false))) sNext) (sSeq (sSet 6 (gCall m_normals aNil)) (sSeq (sIf (gTOr (gBl (gOp mNe (gVar 6) (gCB mTuple (aCons (gComp [9] (gSeq (gVar 5)) (.nm 9) (gBl (gOp mEq (gCall m__law_normal (aCons (gVar 9) aNil)) (gVar 9))) (gVar 9)) aNil)))) (gBl (gOp mNe (gOp (mIn false) (gVar 2) (gVar 6)) (gOp mEq (gVar 4) (gVar 2))))) (sRet (gC (.bl false))) sNext) (sSeq (sPar 7 8 (aCons (gCall m_normal (aCons (gTupD (aCons (gC (.str "gr")) (aCons (gC (.str "gw")) (aCons (gC (.str "own")) (aCons (gC (.str "rr")) (aCons (gC (.str "rw")) (aCons (gC (.str "ss")) (aCons (gC (.str "wr")) (aCons (gC (.str "ww")) aNil))))))))) aNil)) (aCons (gCall m_normal (aCons (gTupD (aCons (gC (.str "own")) aNil)) aNil)) aNil))) (sRet (gAnd (gOp mIs (gCall m_below (aCons (gVar 7) (aCons (gVar 2) aNil))) (gC (.bl true))) (gAnd (gOp mIs (gCall m_below (aCons (gVar 2) (aCons (gVar 8) aNil))) (gC (.bl true))) (gOp mEq (gVar 7) (gTupD (aCons (gC (.str "gr")) (aCons (gC (.str "gw")) (aCons (gC (.str "rr")) (aCons (gC (.str "rw")) (aCons (gC (.str "ss")) (aCons (gC (.str "wr")) (aCons (gC (.str "ww")) aNil))))))))))))))))))))))))
noncomputable def m_law : List D → Sto → Out D := gFun 10 g_law
structure Txt (K : PySem.W.Frag) (w : World) (mg : Str → Option Value) where
  a__law_alike : Addr
  d__law_alike : FuncData
  F__law_alike : Fun K "_law_alike" "_law_alike" s__law_alike a__law_alike d__law_alike
  b__law_alike : Binds K d__law_alike ["found", "due"] []
  g__law_alike : mg "_law_alike" = some (.ref a__law_alike)
  a__law_taken : Addr
  d__law_taken : FuncData
  F__law_taken : Fun K "_law_taken" "_law_taken" s__law_taken a__law_taken d__law_taken
  b__law_taken : Binds K d__law_taken ["row", "many"] []
  g__law_taken : mg "_law_taken" = some (.ref a__law_taken)
  a__law_design : Addr
  d__law_design : FuncData
  F__law_design : Fun K "_law_design" "_law_design" s__law_design a__law_design d__law_design
  b__law_design : Binds K d__law_design ["row"] []
  g__law_design : mg "_law_design" = some (.ref a__law_design)
  a__law_pick : Addr
  d__law_pick : FuncData
  F__law_pick : Fun K "_law_pick" "_law_pick" s__law_pick a__law_pick d__law_pick
  b__law_pick : Binds K d__law_pick ["row", "kinds"] []
  g__law_pick : mg "_law_pick" = some (.ref a__law_pick)
  a__law_near : Addr
  d__law_near : FuncData
  F__law_near : Fun K "_law_near" "_law_near" s__law_near a__law_near d__law_near
  b__law_near : Binds K d__law_near ["row", "design"] []
  g__law_near : mg "_law_near" = some (.ref a__law_near)
  a__law_normal : Addr
  d__law_normal : FuncData
  F__law_normal : Fun K "_law_normal" "_law_normal" s__law_normal a__law_normal d__law_normal
  b__law_normal : Binds K d__law_normal ["design"] []
  g__law_normal : mg "_law_normal" = some (.ref a__law_normal)
  a_is_design : Addr
  d_is_design : FuncData
  F_is_design : Fun K "is_design" "is_design" s_is_design a_is_design d_is_design
  b_is_design : Binds K d_is_design ["value"] []
  g_is_design : mg "is_design" = some (.ref a_is_design)
  a_check_design : Addr
  d_check_design : FuncData
  F_check_design : Fun K "check_design" "check_design" s_check_design a_check_design d_check_design
  b_check_design : Binds K d_check_design ["value"] []
  g_check_design : mg "check_design" = some (.ref a_check_design)
  a_hides_own : Addr
  d_hides_own : FuncData
  F_hides_own : Fun K "hides_own" "hides_own" s_hides_own a_hides_own d_hides_own
  b_hides_own : Binds K d_hides_own ["one", "other"] []
  g_hides_own : mg "hides_own" = some (.ref a_hides_own)
  a_keeps_guarded_readings : Addr
  d_keeps_guarded_readings : FuncData
  F_keeps_guarded_readings : Fun K "keeps_guarded_readings" "keeps_guarded_readings" s_keeps_guarded_readings a_keeps_guarded_readings d_keeps_guarded_readings
  b_keeps_guarded_readings : Binds K d_keeps_guarded_readings ["design"] []
  g_keeps_guarded_readings : mg "keeps_guarded_readings" = some (.ref a_keeps_guarded_readings)
  a_keeps_guarded_writings : Addr
  d_keeps_guarded_writings : FuncData
  F_keeps_guarded_writings : Fun K "keeps_guarded_writings" "keeps_guarded_writings" s_keeps_guarded_writings a_keeps_guarded_writings d_keeps_guarded_writings
  b_keeps_guarded_writings : Binds K d_keeps_guarded_writings ["design"] []
  g_keeps_guarded_writings : mg "keeps_guarded_writings" = some (.ref a_keeps_guarded_writings)
  a_is_below : Addr
  d_is_below : FuncData
  F_is_below : Fun K "is_below" "is_below" s_is_below a_is_below d_is_below
  b_is_below : Binds K d_is_below ["one", "other"] []
  g_is_below : mg "is_below" = some (.ref a_is_below)
  a_alike : Addr
  d_alike : FuncData
  F_alike : Fun K "alike" "alike" s_alike a_alike d_alike
  b_alike : Binds K d_alike ["one", "other"] []
  g_alike : mg "alike" = some (.ref a_alike)
  a_all_designs : Addr
  d_all_designs : FuncData
  F_all_designs : Fun K "all_designs" "all_designs" s_all_designs a_all_designs d_all_designs
  b_all_designs : Binds K d_all_designs [] []
  g_all_designs : mg "all_designs" = some (.ref a_all_designs)
  a_below : Addr
  d_below : FuncData
  F_below : Fun K "below" "below" s_below a_below d_below
  b_below : Binds K d_below ["one", "other"] []
  g_below : mg "below" = some (.ref a_below)
  a_is_held_by_normal : Addr
  d_is_held_by_normal : FuncData
  F_is_held_by_normal : Fun K "is_held_by_normal" "is_held_by_normal" s_is_held_by_normal a_is_held_by_normal d_is_held_by_normal
  b_is_held_by_normal : Binds K d_is_held_by_normal ["design", "word"] []
  g_is_held_by_normal : mg "is_held_by_normal" = some (.ref a_is_held_by_normal)
  a_normal_of : Addr
  d_normal_of : FuncData
  F_normal_of : Fun K "normal_of" "normal_of" s_normal_of a_normal_of d_normal_of
  b_normal_of : Binds K d_normal_of ["design"] []
  g_normal_of : mg "normal_of" = some (.ref a_normal_of)
  a_normal : Addr
  d_normal : FuncData
  F_normal : Fun K "normal" "normal" s_normal a_normal d_normal
  b_normal : Binds K d_normal ["design"] []
  g_normal : mg "normal" = some (.ref a_normal)
  a_normals : Addr
  d_normals : FuncData
  F_normals : Fun K "normals" "normals" s_normals a_normals d_normals
  b_normals : Binds K d_normals [] []
  g_normals : mg "normals" = some (.ref a_normals)
  a_law : Addr
  d_law : FuncData
  F_law : Fun K "law" "law" s_law a_law d_law
  b_law : Binds K d_law ["script"] []
  g_law : mg "law" = some (.ref a_law)
  n_any : mg "any" = none
  n_bool : mg "bool" = none
  n_int : mg "int" = none
  n_isinstance : mg "isinstance" = none
  n_len : mg "len" = none
  n_list : mg "list" = none
  n_range : mg "range" = none
  n_set : mg "set" = none
  n_sorted : mg "sorted" = none
  n_str : mg "str" = none
  n_tuple : mg "tuple" = none
  a_WORDS : Addr
  c_WORDS : mg "WORDS" = some (.ref a_WORDS) ∧ ∀ (Z : Zx) β H, Z.K = K → Rep Z β H (.ref a_WORDS) c_WORDS
  a_KEEPING : Addr
  c_KEEPING : mg "KEEPING" = some (.ref a_KEEPING) ∧ ∀ (Z : Zx) β H, Z.K = K → Rep Z β H (.ref a_KEEPING) c_KEEPING
theorem ok__law_alike {w : World} {K : PySem.W.Frag} {mg : Str → Option Value} {base : Heap} (T : Txt K w mg) (n : Nat) : FnD P w K mg base (1 + n) T.a__law_alike T.d__law_alike ["found", "due"] (m__law_alike n) := by
  induction n with
  | zero => exact fnD_of T.F__law_alike sc__law_alike fun cdv A outer s H E hr => dss_bad
  | succ n ih => exact fnD_of T.F__law_alike sc__law_alike fun cdv A outer s H E hr => (dss_cons (ds_if (dt_tr (de_callB call_isiS cd_isiT (by rfl) T.n_isinstance (by decide +kernel) (da_cons (de_var 1) (da_cons (de_tup (da_cons (de_type (by rfl) T.n_tuple (by decide +kernel)) (da_cons (de_type (by rfl) T.n_list (by decide +kernel)) da_nil))) da_nil)))) (dss_cons (ds_if (dt_w (dw_or (dt_not (dt_tr (de_callB call_isiS cd_isiT (by rfl) T.n_isinstance (by decide +kernel) (da_cons (de_var 0) (da_cons (de_tup (da_cons (de_type (by rfl) T.n_tuple (by decide +kernel)) (da_cons (de_type (by rfl) T.n_list (by decide +kernel)) da_nil))) da_nil))))) (dw_or1 (dt_cmp (op_neD (hu64 hr)) od_ne (de_callB call_isi cd_isi (by rfl) T.n_isinstance (by decide +kernel) (da_cons (de_var 0) (da_cons (de_type (by rfl) T.n_list (by decide +kernel)) da_nil))) (de_callB call_isi cd_isi (by rfl) T.n_isinstance (by decide +kernel) (da_cons (de_var 1) (da_cons (de_type (by rfl) T.n_list (by decide +kernel)) da_nil))))))) (dss_one (ds_ret de_bl)) dss_nil) (dss_cons (ds_if (dt_cmp (op_neD (hu64 hr)) od_ne (de_callB call_len cd_len (by rfl) T.n_len (by decide +kernel) (da_cons (de_var 0) da_nil)) (de_callB call_len cd_len (by rfl) T.n_len (by decide +kernel) (da_cons (de_var 1) da_nil))) (dss_one (ds_ret de_bl)) dss_nil) (dss_one (ds_ret (de_cmp (op_eqD (hu64 hr)) od_eq (de_comp (own := [("k", 2)]) (p := (.nm 2)) rfl sc__law_alike.nd (di_range1 (by rfl) T.n_range (da_cons (de_callB call_len cd_len (by rfl) T.n_len (by decide +kernel) (da_cons (de_var 1) da_nil)) da_nil)) (blkOk_by (N := N__law_alike) (sc := (defScope s__law_alike)) (by decide +kernel)) (by decide) (fun _ _ _ _ _ => (dg_nm (i := 2) sc__law_alike.nd rfl (by first | exact Or.inl rfl | exact Or.inr rfl))) (fun _ _ _ _ _ => (dts_one (dt_not (dt_tr (de_call ih takesF (hr.mono (Nat.le_refl _)) (by rfl) T.g__law_alike T.F__law_alike.kp T.b__law_alike rfl (da_cons (de_ix ix_seq od_ix (de_var 0) (de_var 2)) (da_cons (de_ix ix_seq od_ix (de_var 1) (de_var 2)) da_nil)) (hfl := (al_cons (al_cons al_nil)))))))) (fun _ _ _ _ _ => (de_var 2))) (de_lst da_nil)))))) dss_nil) (dss_cons (ds_if (dt_w (dw_or (dt_cmp or_is od_is (de_var 1) de_non) (dw_or1 (dt_tr (de_callB call_isi cd_isi (by rfl) T.n_isinstance (by decide +kernel) (da_cons (de_var 1) (da_cons (de_type (by rfl) T.n_str (by decide +kernel)) da_nil))))))) (dss_one (ds_ret (de_and (de_cmp (op_eqD (hu64 hr)) od_eq (de_var 0) (de_var 1)) (de_one (de_cmp (op_eqD (hu64 hr)) od_eq (de_callB call_isi cd_isi (by rfl) T.n_isinstance (by decide +kernel) (da_cons (de_var 0) (da_cons (de_type (by rfl) T.n_str (by decide +kernel)) da_nil))) (de_callB call_isi cd_isi (by rfl) T.n_isinstance (by decide +kernel) (da_cons (de_var 1) (da_cons (de_type (by rfl) T.n_str (by decide +kernel)) da_nil)))))))) dss_nil) (dss_one (ds_ret (de_and (de_callB call_isi cd_isi (by rfl) T.n_isinstance (by decide +kernel) (da_cons (de_var 0) (da_cons (de_type (by rfl) T.n_int (by decide +kernel)) da_nil))) (de_and (de_cmp (op_eqD (hu64 hr)) od_eq (de_callB call_isi cd_isi (by rfl) T.n_isinstance (by decide +kernel) (da_cons (de_var 0) (da_cons (de_type (by rfl) T.n_bool (by decide +kernel)) da_nil))) (de_callB call_isi cd_isi (by rfl) T.n_isinstance (by decide +kernel) (da_cons (de_var 1) (da_cons (de_type (by rfl) T.n_bool (by decide +kernel)) da_nil)))) (de_one (de_cmp (op_eqD (hu64 hr)) od_eq (de_var 0) (de_var 1)))))))))
theorem ok__law_taken {w : World} {K : PySem.W.Frag} {mg : Str → Option Value} {base : Heap} (T : Txt K w mg) : FnD P w K mg base 1 T.a__law_taken T.d__law_taken ["row", "many"] m__law_taken :=
  fnD_of T.F__law_taken sc__law_taken fun cdv A outer s H E hr => (dss_cons (ds_if (dt_cmp op_gt od_gt (de_ix ix_seq od_ix (de_var 0) de_int) de_int) (dss_cons (ds_set 2 sc__law_taken.nd rfl (by first | exact Or.inl rfl | exact Or.inr rfl) (de_op op_mod od_mod (de_callTy call_int1 cd_int (by rfl) T.n_int (by decide +kernel) (da_cons (de_ix ix_seq od_ix (de_var 0) de_int) da_nil)) (de_var 1))) (dss_cons (ds_put (de_var 0) de_int (de_op op_fdiv od_fdiv (de_ix ix_seq od_ix (de_var 0) de_int) (de_var 1))) (dss_one (ds_ret (de_var 2))))) dss_nil) (dss_cons (ds_put (de_var 0) de_int (de_op or_add od_add (de_ix ix_seq od_ix (de_var 0) de_int) de_int)) (dss_cons (ds_if (dt_cmp op_gt od_gt (de_ix ix_seq od_ix (de_var 0) de_int) (de_callB call_len cd_len (by rfl) T.n_len (by decide +kernel) (da_cons (de_ix ix_seq od_ix (de_var 0) de_int) da_nil))) (dss_cons (ds_put (de_var 0) de_int (de_op op_mod od_mod (de_callTy call_int1 cd_int (by rfl) T.n_int (by decide +kernel) (da_cons (de_op or_add od_add (de_op or_mul od_mul (de_ix ix_seq od_ix (de_var 0) de_int) de_int) de_int) da_nil)) de_int)) (dss_one (ds_ret (de_op op_mod od_mod (de_callTy call_int1 cd_int (by rfl) T.n_int (by decide +kernel) (da_cons (de_op op_fdiv od_fdiv (de_ix ix_seq od_ix (de_var 0) de_int) de_int) da_nil)) (de_var 1))))) dss_nil) (dss_cons (ds_set 3 sc__law_taken.nd rfl (by first | exact Or.inl rfl | exact Or.inr rfl) (de_ix ix_seq od_ix (de_ix ix_seq od_ix (de_var 0) de_int) (de_op op_sub od_sub (de_ix ix_seq od_ix (de_var 0) de_int) de_int))) (dss_cons (ds_put (de_var 0) de_int (de_op op_mod od_mod (de_callTy call_int1 cd_int (by rfl) T.n_int (by decide +kernel) (da_cons (de_op or_add od_add (de_op or_add od_add (de_op or_mul od_mul (de_ix ix_seq od_ix (de_var 0) de_int) de_int) (de_var 3)) de_int) da_nil)) de_int)) (dss_cons (ds_if (dt_cmp op_ge od_ge (de_var 3) (de_op op_pow od_pow de_int de_int)) (dss_one (ds_put (de_var 0) de_int (de_op op_fdiv od_fdiv (de_var 3) (de_var 1)))) dss_nil) (dss_one (ds_ret (de_op op_mod od_mod (de_callTy call_int1 cd_int (by rfl) T.n_int (by decide +kernel) (da_cons (de_var 3) da_nil)) (de_var 1))))))))))
theorem ok__law_design {w : World} {K : PySem.W.Frag} {mg : Str → Option Value} {base : Heap} (T : Txt K w mg) : FnD P w K mg base 2 T.a__law_design T.d__law_design ["row"] m__law_design :=
  fnD_of T.F__law_design sc__law_design fun cdv A outer s H E hr => (dss_one (ds_ret (de_callTy call_tuple_of cd_tuple (by rfl) T.n_tuple (by decide +kernel) (da_cons (de_comp (own := [("word", 1)]) (p := (.nm 1)) rfl sc__law_design.nd (di_seq (de_lst (da_cons de_str (da_cons de_str (da_cons de_str (da_cons de_str (da_cons de_str (da_cons de_str (da_cons de_str (da_cons de_str da_nil)))))))))) (blkOk_by (N := N__law_design) (sc := (defScope s__law_design)) (by decide +kernel)) (by decide) (fun _ _ _ _ _ => (dg_nm (i := 1) sc__law_design.nd rfl (by first | exact Or.inl rfl | exact Or.inr rfl))) (fun _ _ _ _ _ => (dts_one (dt_cmp (op_eqD (hu64 hr)) od_eq (de_call (ok__law_taken T) takesF (hr.mono (by decide)) (by rfl) T.g__law_taken T.F__law_taken.kp T.b__law_taken rfl (da_cons (de_var 0) (da_cons de_int da_nil)) (hfl := (al_cons (al_cons al_nil)))) de_int))) (fun _ _ _ _ _ => (de_var 1))) da_nil))))
theorem ok__law_pick {w : World} {K : PySem.W.Frag} {mg : Str → Option Value} {base : Heap} (T : Txt K w mg) : FnD P w K mg base 2 T.a__law_pick T.d__law_pick ["row", "kinds"] m__law_pick :=
  fnD_of T.F__law_pick sc__law_pick fun cdv A outer s H E hr => (dss_one (ds_ret (de_ix ix_seq od_ix (de_var 1) (de_call (ok__law_taken T) (takes_of rfl rfl rfl rfl) (hr.mono (by decide)) (by rfl) T.g__law_taken T.F__law_taken.kp T.b__law_taken rfl (da_cons (de_var 0) (da_cons (de_callB call_len cd_len (by rfl) T.n_len (by decide +kernel) (da_cons (de_var 1) da_nil)) da_nil)) (hfl := (al_cons (al_cons al_nil)))))))
theorem ok__law_near {w : World} {K : PySem.W.Frag} {mg : Str → Option Value} {base : Heap} (T : Txt K w mg) : FnD P w K mg base 3 T.a__law_near T.d__law_near ["row", "design"] m__law_near :=
  fnD_of T.F__law_near sc__law_near fun cdv A outer s H E hr => (dss_cons (ds_set 2 sc__law_near.nd rfl (by first | exact Or.inl rfl | exact Or.inr rfl) (de_lst (da_cons de_str (da_cons de_str (da_cons de_str (da_cons de_str (da_cons de_str (da_cons de_str (da_cons de_str (da_cons de_str da_nil)))))))))) (dss_cons (ds_set 3 sc__law_near.nd rfl (by first | exact Or.inl rfl | exact Or.inr rfl) (de_comp (own := [("turn", 4)]) (p := (.nm 4)) rfl sc__law_near.nd (di_range1 (by rfl) T.n_range (da_cons (de_call (ok__law_taken T) (takes_of rfl rfl rfl rfl) (hr.mono (by decide)) (by rfl) T.g__law_taken T.F__law_taken.kp T.b__law_taken rfl (da_cons (de_var 0) (da_cons de_int da_nil)) (hfl := (al_cons (al_cons al_nil)))) da_nil)) (blkOk_by (N := N__law_near) (sc := (defScope s__law_near)) (by decide +kernel)) (by decide) (fun _ _ _ _ _ => (dg_nm (i := 4) sc__law_near.nd rfl (by first | exact Or.inl rfl | exact Or.inr rfl))) (fun _ _ _ _ _ => dts_nil) (fun _ _ _ _ _ => (de_call (ok__law_pick T) takesF (hr.mono (by decide)) (by rfl) T.g__law_pick T.F__law_pick.kp T.b__law_pick rfl (da_cons (de_var 0) (da_cons (de_var 2) da_nil)) (hfl := (al_cons (al_cons al_nil))))))) (dss_one (ds_ret (de_callTy call_tuple_of cd_tuple (by rfl) T.n_tuple (by decide +kernel) (da_cons (de_comp (own := [("word", 5)]) (p := (.nm 5)) rfl sc__law_near.nd (di_seq (de_var 2)) (blkOk_by (N := N__law_near) (sc := (defScope s__law_near)) (by decide +kernel)) (by decide) (fun _ _ _ _ _ => (dg_nm (i := 5) sc__law_near.nd rfl (by first | exact Or.inl rfl | exact Or.inr rfl))) (fun _ _ _ _ _ => (dts_one (dt_cmp (op_neD (hu64 hr)) od_ne (de_cmp (or_in (hu65 hr)) (od_in false) (de_var 5) (de_var 1)) (de_cmp (or_in (hu65 hr)) (od_in false) (de_var 5) (de_var 3))))) (fun _ _ _ _ _ => (de_var 5))) da_nil))))))
theorem ok__law_normal {w : World} {K : PySem.W.Frag} {mg : Str → Option Value} {base : Heap} (T : Txt K w mg) : FnD P w K mg base 1 T.a__law_normal T.d__law_normal ["design"] m__law_normal :=
  fnD_of T.F__law_normal sc__law_normal fun cdv A outer s H E hr => (dss_cons (ds_set 1 sc__law_normal.nd rfl (by first | exact Or.inl rfl | exact Or.inr rfl) (de_callTy call_list_of cd_list (by rfl) T.n_list (by decide +kernel) (da_cons (de_var 0) da_nil))) (dss_cons (ds_set 1 sc__law_normal.nd rfl (by first | exact Or.inl rfl | exact Or.inr rfl) (de_op or_add od_add (de_var 1) (de_op or_mul od_mul (de_lst (da_cons de_str da_nil)) (de_callTy call_int1 cd_int (by rfl) T.n_int (by decide +kernel) (da_cons (de_and (de_cmp (or_in (hu65 hr)) (od_in false) de_str (de_var 0)) (de_one (de_cmp (or_notin (hu65 hr)) (od_in true) de_str (de_var 0)))) da_nil))))) (dss_cons (ds_set 1 sc__law_normal.nd rfl (by first | exact Or.inl rfl | exact Or.inr rfl) (de_op or_add od_add (de_var 1) (de_op or_mul od_mul (de_lst (da_cons de_str da_nil)) (de_callTy call_int1 cd_int (by rfl) T.n_int (by decide +kernel) (da_cons (de_and (de_cmp (or_in (hu65 hr)) (od_in false) de_str (de_var 0)) (de_and (de_cmp (or_in (hu65 hr)) (od_in false) de_str (de_var 0)) (de_one (de_cmp (or_notin (hu65 hr)) (od_in true) de_str (de_var 0))))) da_nil))))) (dss_cons (ds_set 2 sc__law_normal.nd rfl (by first | exact Or.inl rfl | exact Or.inr rfl) (de_and (de_cmp (or_in (hu65 hr)) (od_in false) de_str (de_var 0)) (de_one (de_or (de_cmp (or_in (hu65 hr)) (od_in false) de_str (de_var 0)) (de_one (de_and (de_cmp (or_notin (hu65 hr)) (od_in true) de_str (de_var 1)) (de_one (de_cmp (or_notin (hu65 hr)) (od_in true) de_str (de_var 1))))))))) (dss_one (ds_ret (de_callTy call_tuple_of cd_tuple (by rfl) T.n_tuple (by decide +kernel) (da_cons (de_callB (cr_srt (hu64 hr)) cd_srtS (by rfl) T.n_sorted (by decide +kernel) (da_cons (de_comp (own := [("word", 3)]) (p := (.nm 3)) rfl sc__law_normal.nd (di_seq (de_var 1)) (blkOk_by (N := N__law_normal) (sc := (defScope s__law_normal)) (by decide +kernel)) (by decide) (fun _ _ _ _ _ => (dg_nm (i := 3) sc__law_normal.nd rfl (by first | exact Or.inl rfl | exact Or.inr rfl))) (fun _ _ _ _ _ => (dts_one (dt_w (dw_or (dt_cmp (op_neD (hu64 hr)) od_ne (de_var 3) de_str) (dw_or1 (dt_not (dt_tr (de_var 2)))))))) (fun _ _ _ _ _ => (de_var 3))) da_nil)) da_nil))))))))
theorem ok_is_design {w : World} {K : PySem.W.Frag} {mg : Str → Option Value} {base : Heap} (T : Txt K w mg) : FnD P w K mg base 1 T.a_is_design T.d_is_design ["value"] m_is_design :=
  fnD_of T.F_is_design sc_is_design fun cdv A outer s H E hr => (dss_one (ds_ret (de_and (de_callB call_isi cd_isi (by rfl) T.n_isinstance (by decide +kernel) (da_cons (de_var 0) (da_cons (de_type (by rfl) T.n_tuple (by decide +kernel)) da_nil))) (de_one (de_cmp (op_eqD (hu64 hr)) od_eq (de_var 0) (de_callTy call_tuple_of cd_tuple (by rfl) T.n_tuple (by decide +kernel) (da_cons (de_comp (own := [("word", 1)]) (p := (.nm 1)) rfl sc_is_design.nd (di_seq (de_glob (v := .ref T.a_WORDS) (by rfl) T.c_WORDS.1 rfl (fun β H => T.c_WORDS.2 _ β H rfl))) (blkOk_by (N := N_is_design) (sc := (defScope s_is_design)) (by decide +kernel)) (by decide) (fun _ _ _ _ _ => (dg_nm (i := 1) sc_is_design.nd rfl (by first | exact Or.inl rfl | exact Or.inr rfl))) (fun _ _ _ _ _ => (dts_one (dt_cmp (or_in (hu65 hr)) (od_in false) (de_var 1) (de_var 0)))) (fun _ _ _ _ _ => (de_var 1))) da_nil)))))))
theorem ok_check_design {w : World} {K : PySem.W.Frag} {mg : Str → Option Value} {base : Heap} (T : Txt K w mg) : FnD P w K mg base 2 T.a_check_design T.d_check_design ["value"] m_check_design :=
  fnD_of T.F_check_design sc_check_design fun cdv A outer s H E hr => (dss_one (ds_if (dt_not (dt_tr (de_call (ok_is_design T) (takes_of rfl rfl rfl rfl) (hr.mono (by decide)) (by rfl) T.g_is_design T.F_is_design.kp T.b_is_design rfl (da_cons (de_var 0) da_nil) (hfl := (al_cons al_nil))))) dss_bad dss_nil))
theorem ok_hides_own {w : World} {K : PySem.W.Frag} {mg : Str → Option Value} {base : Heap} (T : Txt K w mg) : FnD P w K mg base 1 T.a_hides_own T.d_hides_own ["one", "other"] m_hides_own :=
  fnD_of T.F_hides_own sc_hides_own fun cdv A outer s H E hr => (dss_cons (ds_if (dt_cmp (or_notin (hu65 hr)) (od_in true) de_str (de_var 0)) (dss_one (ds_ret de_bl)) dss_nil) (dss_one (ds_ret (de_or (de_cmp (or_in (hu65 hr)) (od_in false) de_str (de_var 0)) (de_one (de_and (de_cmp (or_notin (hu65 hr)) (od_in true) de_str (de_var 1)) (de_one (de_cmp (or_notin (hu65 hr)) (od_in true) de_str (de_var 1)))))))))
theorem ok_keeps_guarded_readings {w : World} {K : PySem.W.Frag} {mg : Str → Option Value} {base : Heap} (T : Txt K w mg) : FnD P w K mg base 1 T.a_keeps_guarded_readings T.d_keeps_guarded_readings ["design"] m_keeps_guarded_readings :=
  fnD_of T.F_keeps_guarded_readings sc_keeps_guarded_readings fun cdv A outer s H E hr => (dss_one (ds_ret (de_or (de_cmp (or_in (hu65 hr)) (od_in false) de_str (de_var 0)) (de_one (de_and (de_cmp (or_in (hu65 hr)) (od_in false) de_str (de_var 0)) (de_one (de_cmp (or_in (hu65 hr)) (od_in false) de_str (de_var 0))))))))
theorem ok_keeps_guarded_writings {w : World} {K : PySem.W.Frag} {mg : Str → Option Value} {base : Heap} (T : Txt K w mg) : FnD P w K mg base 1 T.a_keeps_guarded_writings T.d_keeps_guarded_writings ["design"] m_keeps_guarded_writings :=
  fnD_of T.F_keeps_guarded_writings sc_keeps_guarded_writings fun cdv A outer s H E hr => (dss_one (ds_ret (de_or (de_cmp (or_in (hu65 hr)) (od_in false) de_str (de_var 0)) (de_one (de_cmp (or_in (hu65 hr)) (od_in false) de_str (de_var 0))))))
theorem ok_is_below {w : World} {K : PySem.W.Frag} {mg : Str → Option Value} {base : Heap} (T : Txt K w mg) : FnD P w K mg base 2 T.a_is_below T.d_is_below ["one", "other"] m_is_below :=
  fnD_of T.F_is_below sc_is_below fun cdv A outer s H E hr => (dss_cons (ds_if (dt_tr (de_callB (cr_any rfl) cd_any (by rfl) T.n_any (by decide +kernel) (da_cons (de_comp (own := [("word", 2)]) (p := (.nm 2)) rfl sc_is_below.nd (di_seq (de_glob (v := .ref T.a_KEEPING) (by rfl) T.c_KEEPING.1 rfl (fun β H => T.c_KEEPING.2 _ β H rfl))) (blkOk_by (N := N_is_below) (sc := (defScope s_is_below)) (by decide +kernel)) (by decide) (fun _ _ _ _ _ => (dg_nm (i := 2) sc_is_below.nd rfl (by first | exact Or.inl rfl | exact Or.inr rfl))) (fun _ _ _ _ _ => dts_nil) (fun _ _ _ _ _ => (de_and (de_cmp (or_in (hu65 hr)) (od_in false) (de_var 2) (de_var 1)) (de_one (de_cmp (or_notin (hu65 hr)) (od_in true) (de_var 2) (de_var 0)))))) da_nil))) (dss_one (ds_ret de_bl)) dss_nil) (dss_cons (ds_if (dt_w (dw_and (dt_cmp (or_in (hu65 hr)) (od_in false) de_str (de_var 1)) (dw_and1 (dt_not (dt_tr (de_call (ok_keeps_guarded_writings T) (takes_of rfl rfl rfl rfl) (hr.mono (by decide)) (by rfl) T.g_keeps_guarded_writings T.F_keeps_guarded_writings.kp T.b_keeps_guarded_writings rfl (da_cons (de_var 0) da_nil) (hfl := (al_cons al_nil)))))))) (dss_one (ds_ret de_bl)) dss_nil) (dss_cons (ds_if (dt_w (dw_and (dt_cmp (or_in (hu65 hr)) (od_in false) de_str (de_var 1)) (dw_and1 (dt_not (dt_tr (de_call (ok_keeps_guarded_readings T) (takes_of rfl rfl rfl rfl) (hr.mono (by decide)) (by rfl) T.g_keeps_guarded_readings T.F_keeps_guarded_readings.kp T.b_keeps_guarded_readings rfl (da_cons (de_var 0) da_nil) (hfl := (al_cons al_nil)))))))) (dss_one (ds_ret de_bl)) dss_nil) (dss_one (ds_ret (de_or (de_cmp (or_notin (hu65 hr)) (od_in true) de_str (de_var 0)) (de_or (de_cmp (or_in (hu65 hr)) (od_in false) de_str (de_var 1)) (de_one (de_call (ok_hides_own T) (takes_of rfl rfl rfl rfl) (hr.mono (by decide)) (by rfl) T.g_hides_own T.F_hides_own.kp T.b_hides_own rfl (da_cons (de_var 0) (da_cons (de_var 1) da_nil)) (hfl := (al_cons (al_cons al_nil))))))))))))
theorem ok_alike {w : World} {K : PySem.W.Frag} {mg : Str → Option Value} {base : Heap} (T : Txt K w mg) : FnD P w K mg base 3 T.a_alike T.d_alike ["one", "other"] m_alike :=
  fnD_of T.F_alike sc_alike fun cdv A outer s H E hr => (dss_cons (ds_expr (de_call (ok_check_design T) (takes_of rfl rfl rfl rfl) (hr.mono (by decide)) (by rfl) T.g_check_design T.F_check_design.kp T.b_check_design rfl (da_cons (de_var 0) da_nil) (hfl := (al_cons al_nil)))) (dss_cons (ds_expr (de_call (ok_check_design T) (takes_of rfl rfl rfl rfl) (hr.mono (by decide)) (by rfl) T.g_check_design T.F_check_design.kp T.b_check_design rfl (da_cons (de_var 1) da_nil) (hfl := (al_cons al_nil)))) (dss_one (ds_ret (de_and (de_call (ok_is_below T) (takes_of rfl rfl rfl rfl) (hr.mono (by decide)) (by rfl) T.g_is_below T.F_is_below.kp T.b_is_below rfl (da_cons (de_var 0) (da_cons (de_var 1) da_nil)) (hfl := (al_cons (al_cons al_nil)))) (de_one (de_call (ok_is_below T) (takes_of rfl rfl rfl rfl) (hr.mono (by decide)) (by rfl) T.g_is_below T.F_is_below.kp T.b_is_below rfl (da_cons (de_var 1) (da_cons (de_var 0) da_nil)) (hfl := (al_cons (al_cons al_nil))))))))))
theorem ok_all_designs {w : World} {K : PySem.W.Frag} {mg : Str → Option Value} {base : Heap} (T : Txt K w mg) : FnD P w K mg base 1 T.a_all_designs T.d_all_designs [] m_all_designs :=
  fnD_of T.F_all_designs sc_all_designs fun cdv A outer s H E hr => (dss_cons (ds_set 0 sc_all_designs.nd rfl (by first | exact Or.inl rfl | exact Or.inr rfl) (de_lst (da_cons (de_tup da_nil) da_nil))) (dss_cons (ds_for (p := (.nm 1)) (passes_of rfl) rfl (di_seq (de_glob (v := .ref T.a_WORDS) (by rfl) T.c_WORDS.1 rfl (fun β H => T.c_WORDS.2 _ β H rfl))) (dg_nm (i := 1) sc_all_designs.nd rfl (by first | exact Or.inl rfl | exact Or.inr rfl)) (dss_one (ds_set 0 sc_all_designs.nd rfl (by first | exact Or.inl rfl | exact Or.inr rfl) (de_op or_add od_add (de_var 0) (de_comp (own := [("design", 2)]) (p := (.nm 2)) rfl sc_all_designs.nd (di_seq (de_var 0)) (blkOk_by (N := N_all_designs) (sc := (defScope s_all_designs)) (by decide +kernel)) (by decide) (fun _ _ _ _ _ => (dg_nm (i := 2) sc_all_designs.nd rfl (by first | exact Or.inl rfl | exact Or.inr rfl))) (fun _ _ _ _ _ => dts_nil) (fun _ _ _ _ _ => (de_op or_add od_add (de_var 2) (de_tup (da_cons (de_var 1) da_nil))))))))) (dss_one (ds_ret (de_callTy call_tuple_of cd_tuple (by rfl) T.n_tuple (by decide +kernel) (da_cons (de_callB (cr_srtT (hu64 hr)) cd_srtTI (by rfl) T.n_sorted (by decide +kernel) (da_cons (de_var 0) da_nil)) da_nil))))))
theorem ok_below {w : World} {K : PySem.W.Frag} {mg : Str → Option Value} {base : Heap} (T : Txt K w mg) : FnD P w K mg base 3 T.a_below T.d_below ["one", "other"] m_below :=
  fnD_of T.F_below sc_below fun cdv A outer s H E hr => (dss_cons (ds_expr (de_call (ok_check_design T) (takes_of rfl rfl rfl rfl) (hr.mono (by decide)) (by rfl) T.g_check_design T.F_check_design.kp T.b_check_design rfl (da_cons (de_var 0) da_nil) (hfl := (al_cons al_nil)))) (dss_cons (ds_expr (de_call (ok_check_design T) (takes_of rfl rfl rfl rfl) (hr.mono (by decide)) (by rfl) T.g_check_design T.F_check_design.kp T.b_check_design rfl (da_cons (de_var 1) da_nil) (hfl := (al_cons al_nil)))) (dss_one (ds_ret (de_call (ok_is_below T) (takes_of rfl rfl rfl rfl) (hr.mono (by decide)) (by rfl) T.g_is_below T.F_is_below.kp T.b_is_below rfl (da_cons (de_var 0) (da_cons (de_var 1) da_nil)) (hfl := (al_cons (al_cons al_nil))))))))
theorem ok_is_held_by_normal {w : World} {K : PySem.W.Frag} {mg : Str → Option Value} {base : Heap} (T : Txt K w mg) : FnD P w K mg base 2 T.a_is_held_by_normal T.d_is_held_by_normal ["design", "word"] m_is_held_by_normal :=
  fnD_of T.F_is_held_by_normal sc_is_held_by_normal fun cdv A outer s H E hr => (dss_cons (ds_if (dt_cmp (op_eqD (hu64 hr)) od_eq (de_var 1) de_str) (dss_one (ds_ret (de_call (ok_keeps_guarded_writings T) (takes_of rfl rfl rfl rfl) (hr.mono (by decide)) (by rfl) T.g_keeps_guarded_writings T.F_keeps_guarded_writings.kp T.b_keeps_guarded_writings rfl (da_cons (de_var 0) da_nil) (hfl := (al_cons al_nil))))) dss_nil) (dss_cons (ds_if (dt_cmp (op_eqD (hu64 hr)) od_eq (de_var 1) de_str) (dss_one (ds_ret (de_call (ok_keeps_guarded_readings T) (takes_of rfl rfl rfl rfl) (hr.mono (by decide)) (by rfl) T.g_keeps_guarded_readings T.F_keeps_guarded_readings.kp T.b_keeps_guarded_readings rfl (da_cons (de_var 0) da_nil) (hfl := (al_cons al_nil))))) dss_nil) (dss_cons (ds_if (dt_cmp (op_eqD (hu64 hr)) od_eq (de_var 1) de_str) (dss_one (ds_ret (de_and (de_cmp (or_in (hu65 hr)) (od_in false) de_str (de_var 0)) (de_one (de_not (de_call (ok_hides_own T) (takes_of rfl rfl rfl rfl) (hr.mono (by decide)) (by rfl) T.g_hides_own T.F_hides_own.kp T.b_hides_own rfl (da_cons (de_var 0) (da_cons (de_var 0) da_nil)) (hfl := (al_cons (al_cons al_nil))))))))) dss_nil) (dss_one (ds_ret (de_cmp (or_in (hu65 hr)) (od_in false) (de_var 1) (de_var 0)))))))
theorem ok_normal_of {w : World} {K : PySem.W.Frag} {mg : Str → Option Value} {base : Heap} (T : Txt K w mg) : FnD P w K mg base 3 T.a_normal_of T.d_normal_of ["design"] m_normal_of :=
  fnD_of T.F_normal_of sc_normal_of fun cdv A outer s H E hr => (dss_one (ds_ret (de_callTy call_tuple_of cd_tuple (by rfl) T.n_tuple (by decide +kernel) (da_cons (de_comp (own := [("word", 1)]) (p := (.nm 1)) rfl sc_normal_of.nd (di_seq (de_glob (v := .ref T.a_WORDS) (by rfl) T.c_WORDS.1 rfl (fun β H => T.c_WORDS.2 _ β H rfl))) (blkOk_by (N := N_normal_of) (sc := (defScope s_normal_of)) (by decide +kernel)) (by decide) (fun _ _ _ _ _ => (dg_nm (i := 1) sc_normal_of.nd rfl (by first | exact Or.inl rfl | exact Or.inr rfl))) (fun _ _ _ _ _ => (dts_one (dt_tr (de_call (ok_is_held_by_normal T) takesF (hr.mono (by decide)) (by rfl) T.g_is_held_by_normal T.F_is_held_by_normal.kp T.b_is_held_by_normal rfl (da_cons (de_var 0) (da_cons (de_var 1) da_nil)) (hfl := (al_cons (al_cons al_nil))))))) (fun _ _ _ _ _ => (de_var 1))) da_nil))))
theorem ok_normal {w : World} {K : PySem.W.Frag} {mg : Str → Option Value} {base : Heap} (T : Txt K w mg) : FnD P w K mg base 4 T.a_normal T.d_normal ["design"] m_normal :=
  fnD_of T.F_normal sc_normal fun cdv A outer s H E hr => (dss_cons (ds_expr (de_call (ok_check_design T) (takes_of rfl rfl rfl rfl) (hr.mono (by decide)) (by rfl) T.g_check_design T.F_check_design.kp T.b_check_design rfl (da_cons (de_var 0) da_nil) (hfl := (al_cons al_nil)))) (dss_one (ds_ret (de_call (ok_normal_of T) (takes_of rfl rfl rfl rfl) (hr.mono (by decide)) (by rfl) T.g_normal_of T.F_normal_of.kp T.b_normal_of rfl (da_cons (de_var 0) da_nil) (hfl := (al_cons al_nil))))))
theorem ok_normals {w : World} {K : PySem.W.Frag} {mg : Str → Option Value} {base : Heap} (T : Txt K w mg) : FnD P w K mg base 4 T.a_normals T.d_normals [] m_normals :=
  fnD_of T.F_normals sc_normals fun cdv A outer s H E hr => (dss_one (ds_ret (de_callTy call_tuple_of cd_tuple (by rfl) T.n_tuple (by decide +kernel) (da_cons (de_comp (own := [("design", 0)]) (p := (.nm 0)) rfl sc_normals.nd (di_seq (de_call0 (ok_all_designs T) (takes_of rfl rfl rfl rfl) (hr.mono (by decide)) (by rfl) T.g_all_designs T.F_all_designs.kp T.b_all_designs)) (blkOk_by (N := N_normals) (sc := (defScope s_normals)) (by decide +kernel)) (by decide) (fun _ _ _ _ _ => (dg_nm (i := 0) sc_normals.nd rfl (by first | exact Or.inl rfl | exact Or.inr rfl))) (fun _ _ _ _ _ => (dts_one (dt_cmp (op_eqD (hu64 hr)) od_eq (de_call (ok_normal_of T) takesF (hr.mono (by decide)) (by rfl) T.g_normal_of T.F_normal_of.kp T.b_normal_of rfl (da_cons (de_var 0) da_nil) (hfl := (al_cons al_nil))) (de_var 0)))) (fun _ _ _ _ _ => (de_var 0))) da_nil))))
theorem ok_law {w : World} {K : PySem.W.Frag} {mg : Str → Option Value} {base : Heap} (T : Txt K w mg) : FnD P w K mg base 6 T.a_law T.d_law ["script"] m_law :=
  fnD_of T.F_law sc_law fun cdv A outer s H E hr => (dss_cons (ds_set 1 sc_law.nd rfl (by first | exact Or.inl rfl | exact Or.inr rfl) (de_lstM (da_cons (de_var 0) (da_cons de_int (da_cons de_int (da_cons de_int da_nil)))))) (dss_cons (ds_set 2 sc_law.nd rfl (by first | exact Or.inl rfl | exact Or.inr rfl) (de_call (ok__law_design T) (takes_of rfl rfl rfl rfl) (hr.mono (by decide)) (by rfl) T.g__law_design T.F__law_design.kp T.b__law_design rfl (da_cons (de_var 1) da_nil) (hfl := (al_cons al_nil)))) (dss_cons (ds_set 3 sc_law.nd rfl (by first | exact Or.inl rfl | exact Or.inr rfl) (de_call (ok__law_near T) (takes_of rfl rfl rfl rfl) (hr.mono (by decide)) (by rfl) T.g__law_near T.F__law_near.kp T.b__law_near rfl (da_cons (de_var 1) (da_cons (de_var 2) da_nil)) (hfl := (al_cons (al_cons al_nil))))) (dss_hid 0 (dss_cons (ds_set 4 sc_law.nd rfl (by first | exact Or.inl rfl | exact Or.inr rfl) (de_call (ok__law_normal T) (takes_of rfl rfl rfl rfl) (hr.mono (by decide)) (by rfl) T.g__law_normal T.F__law_normal.kp T.b__law_normal rfl (da_cons (de_var 2) da_nil) (hfl := (al_cons al_nil)))) (dss_cons (ds_if (dt_w (dw_or (dt_not (dt_tr (de_call (ok__law_alike T 4) (takes_of rfl rfl rfl rfl) (hr.mono (by decide)) (by rfl) T.g__law_alike T.F__law_alike.kp T.b__law_alike rfl (da_cons (de_call (ok_normal T) (takes_of rfl rfl rfl rfl) (hr.mono (by decide)) (by rfl) T.g_normal T.F_normal.kp T.b_normal rfl (da_cons (de_var 2) da_nil) (hfl := (al_cons al_nil))) (da_cons (de_var 4) da_nil)) (hfl := (al_cons (al_cons al_nil)))))) (dw_or (dt_cmp (op_neD (hu64 hr)) od_ne (de_call (ok_normal T) (takes_of rfl rfl rfl rfl) (hr.mono (by decide)) (by rfl) T.g_normal T.F_normal.kp T.b_normal rfl (da_cons (de_var 4) da_nil) (hfl := (al_cons al_nil))) (de_var 4)) (dw_or1 (dt_cmp or_isnot od_isnot (de_call (ok_alike T) (takes_of rfl rfl rfl rfl) (hr.mono (by decide)) (by rfl) T.g_alike T.F_alike.kp T.b_alike rfl (da_cons (de_var 2) (da_cons (de_var 4) da_nil)) (hfl := (al_cons (al_cons al_nil)))) de_bl))))) (dss_one (ds_ret de_bl)) dss_nil) (dss_cons (ds_if (dt_not (dt_tr (de_call (ok__law_alike T 4) (takes_of rfl rfl rfl rfl) (hr.mono (by decide)) (by rfl) T.g__law_alike T.F__law_alike.kp T.b__law_alike rfl (da_cons (de_call (ok_alike T) (takes_of rfl rfl rfl rfl) (hr.mono (by decide)) (by rfl) T.g_alike T.F_alike.kp T.b_alike rfl (da_cons (de_var 2) (da_cons (de_var 3) da_nil)) (hfl := (al_cons (al_cons al_nil)))) (da_cons (de_cmp (op_eqD (hu64 hr)) od_eq (de_call (ok__law_normal T) (takes_of rfl rfl rfl rfl) (hr.mono (by decide)) (by rfl) T.g__law_normal T.F__law_normal.kp T.b__law_normal rfl (da_cons (de_var 2) da_nil) (hfl := (al_cons al_nil))) (de_call (ok__law_normal T) (takes_of rfl rfl rfl rfl) (hr.mono (by decide)) (by rfl) T.g__law_normal T.F__law_normal.kp T.b__law_normal rfl (da_cons (de_var 3) da_nil) (hfl := (al_cons al_nil)))) da_nil)) (hfl := (al_cons (al_cons al_nil)))))) (dss_one (ds_ret de_bl)) dss_nil) (dss_cons (ds_set 5 sc_law.nd rfl (by first | exact Or.inl rfl | exact Or.inr rfl) (de_call0 (ok_all_designs T) (takes_of rfl rfl rfl rfl) (hr.mono (by decide)) (by rfl) T.g_all_designs T.F_all_designs.kp T.b_all_designs)) (dss_cons (ds_if (dt_w (dw_or (dt_cmp (op_neD (hu64 hr)) od_ne (de_callB call_len cd_len (by rfl) T.n_len (by decide +kernel) (da_cons (de_var 5) da_nil)) de_int) (dw_or (dt_cmp (op_neD (hu64 hr)) od_ne (de_var 5) (de_callTy call_tuple_of cd_tuple (by rfl) T.n_tuple (by decide +kernel) (da_cons (de_sortedSetT rfl (hu64 hr) (by rfl) T.n_sorted (by rfl) T.n_set (da_cons (de_var 5) da_nil)) da_nil))) (dw_or (dt_cmp (or_notin (hu65 hr)) (od_in true) (de_var 2) (de_var 5)) (dw_or1 (dt_cmp or_isnot od_isnot (de_call (ok_is_design T) (takes_of rfl rfl rfl rfl) (hr.mono (by decide)) (by rfl) T.g_is_design T.F_is_design.kp T.b_is_design rfl (da_cons (de_var 3) da_nil) (hfl := (al_cons al_nil))) de_bl)))))) (dss_one (ds_ret de_bl)) dss_nil) (dss_cons (ds_set 6 sc_law.nd rfl (by first | exact Or.inl rfl | exact Or.inr rfl) (de_call0 (ok_normals T) (takes_of rfl rfl rfl rfl) (hr.mono (by decide)) (by rfl) T.g_normals T.F_normals.kp T.b_normals)) (dss_cons (ds_if (dt_w (dw_or (dt_cmp (op_neD (hu64 hr)) od_ne (de_var 6) (de_callTy call_tuple_of cd_tuple (by rfl) T.n_tuple (by decide +kernel) (da_cons (de_comp (own := [("design", 9)]) (p := (.nm 9)) rfl sc_law.nd (di_seq (de_var 5)) (blkOk_by (N := N_law) (sc := (defScope s_law)) (by decide +kernel)) (by decide) (fun _ _ _ _ _ => (dg_nm (i := 9) sc_law.nd rfl (by first | exact Or.inl rfl | exact Or.inr rfl))) (fun _ _ _ _ _ => (dts_one (dt_cmp (op_eqD (hu64 hr)) od_eq (de_call (ok__law_normal T) takesF (hr.mono (by decide)) (by rfl) T.g__law_normal T.F__law_normal.kp T.b__law_normal rfl (da_cons (de_var 9) da_nil) (hfl := (al_cons al_nil))) (de_var 9)))) (fun _ _ _ _ _ => (de_var 9))) da_nil))) (dw_or1 (dt_cmp (op_neD (hu64 hr)) od_ne (de_cmp (or_in (hu65 hr)) (od_in false) (de_var 2) (de_var 6)) (de_cmp (op_eqD (hu64 hr)) od_eq (de_var 4) (de_var 2)))))) (dss_one (ds_ret de_bl)) dss_nil) (dss_cons (ds_par (i := 7) (j := 8) rfl sc_law.nd rfl rfl (by decide) rfl rfl (da_cons (de_call (ok_normal T) (takes_of rfl rfl rfl rfl) (hr.mono (by decide)) (by rfl) T.g_normal T.F_normal.kp T.b_normal rfl (da_cons (de_tup (da_cons de_str (da_cons de_str (da_cons de_str (da_cons de_str (da_cons de_str (da_cons de_str (da_cons de_str (da_cons de_str da_nil))))))))) da_nil) (hfl := (al_cons al_nil))) (da_cons (de_call (ok_normal T) (takes_of rfl rfl rfl rfl) (hr.mono (by decide)) (by rfl) T.g_normal T.F_normal.kp T.b_normal rfl (da_cons (de_tup (da_cons de_str da_nil)) da_nil) (hfl := (al_cons al_nil))) da_nil)) rfl) (dss_one (ds_ret (de_and (de_cmp or_is od_is (de_call (ok_below T) (takes_of rfl rfl rfl rfl) (hr.mono (by decide)) (by rfl) T.g_below T.F_below.kp T.b_below rfl (da_cons (de_var 7) (da_cons (de_var 2) da_nil)) (hfl := (al_cons (al_cons al_nil)))) de_bl) (de_and (de_cmp or_is od_is (de_call (ok_below T) (takes_of rfl rfl rfl rfl) (hr.mono (by decide)) (by rfl) T.g_below T.F_below.kp T.b_below rfl (da_cons (de_var 2) (da_cons (de_var 8) da_nil)) (hfl := (al_cons (al_cons al_nil)))) de_bl) (de_one (de_cmp (op_eqD (hu64 hr)) od_eq (de_var 7) (de_tup (da_cons de_str (da_cons de_str (da_cons de_str (da_cons de_str (da_cons de_str (da_cons de_str (da_cons de_str da_nil))))))))))))))))))))))))))
end K06

set_option Elab.async false
set_option linter.all false
set_option maxRecDepth 100000
set_option maxHeartbeats 2000000
/-! # Instructions, designs, the draws' row: nothing of a program's text -/
namespace CM
open PySem PySem.Spec L2 DL
open PyProof.Rows hiding St
theorem ix_at {n : Nat} {i : Int} {l : List D} {st : Sto} (h : st[n]? = some (.lst l)) : mIx (.ref n) (.int i) st = atI l i := by
  simp only [mIx, h]
theorem put_lit {n k : Nat} {l : List D} {v : D} {ρ : DL.Env} {st : Sto} (h : st[n]? = some (.lst l)) (hk : k < l.length) : putOut (.ref n) (.int (no_index (@OfNat.ofNat Int k _))) v ρ st = .ok (.nx ρ) (st.set n (.lst (l.set k v))) := by
  have hk' : ixN l.length ((k : Nat) : Int) = some k := by
    unfold ixN
    rw [if_pos (Int.natCast_nonneg k), if_pos (by omega)]
    rfl
  exact put_at h hk'
theorem get_set {n : Nat} {o u : SO} {st : Sto} (h : st[n]? = some o) : (st.set n u)[n]? = some u := by
  rw [List.getElem?_set_self (List.getElem?_eq_some_iff.mp h).1]
/-- the draws' row -/
abbrev rowS (sc : D) (p q c : Int) : SO := .lst [sc, .int p, .int q, .int c]
/-- the script, as a list or as a list that is only read -/
structure Scr (ns : List Int) (sc : D) : Prop where
  ix : ∀ i st, mIx sc (.int i) st = atI (ns.map D.int) i
  len : ∀ st, mLen [sc] st = some (.int ns.length)
theorem scr_of {ns : List Int} {sc : D} (h : sc = .ro (ns.map D.int) ∨ sc = .lst (ns.map D.int)) : Scr ns sc := by
  rcases h with rfl | rfl <;> exact ⟨fun _ _ => rfl, fun _ => by simp⟩
/-- an instruction -/
inductive Ins where
  | rd (r x : Int) | wr (x n : Int) | cp (x r : Int) | fn | gd (r n : Int)
  deriving DecidableEq
def Ins.enc : Ins → D
  | .rd r x => .tup [.str "read", .int r, .int x]
  | .wr x n => .tup [.str "write", .int x, .int n]
  | .cp x r => .tup [.str "copy", .int x, .int r]
  | .fn => .tup [.str "fence"]
  | .gd r n => .tup [.str "guard", .int r, .int n]
def Ins.ok : Ins → Prop
  | .rd r x => (0 ≤ r ∧ r ≤ 1) ∧ (0 ≤ x ∧ x ≤ 2)
  | .wr x n => (0 ≤ x ∧ x ≤ 2) ∧ (0 ≤ n ∧ n ≤ 9)
  | .cp x r => (0 ≤ x ∧ x ≤ 2) ∧ (0 ≤ r ∧ r ≤ 1)
  | .fn => True
  | .gd r n => (0 ≤ r ∧ r ≤ 1) ∧ (0 ≤ n ∧ n ≤ 9)
/-- .. as it is drawn: two cells -/
def Ins.drawn : Ins → Prop
  | .rd r x => (0 ≤ r ∧ r ≤ 1) ∧ (0 ≤ x ∧ x ≤ 1)
  | .wr x n => (0 ≤ x ∧ x ≤ 1) ∧ (1 ≤ n ∧ n ≤ 3)
  | .cp x r => (0 ≤ x ∧ x ≤ 1) ∧ (0 ≤ r ∧ r ≤ 1)
  | .fn => True
  | .gd r n => (0 ≤ r ∧ r ≤ 1) ∧ (0 ≤ n ∧ n ≤ 1)
theorem Ins.drawn.ok {i : Ins} (h : i.drawn) : i.ok := by
  cases i <;> simp only [Ins.drawn, Ins.ok] at h ⊢ <;> omega
def encC (c : List Ins) : D := .tup (c.map Ins.enc)
def encP (p : List (List Ins)) : D := .tup (p.map encC)
/-- the words of a design -/
abbrev words8 : List Str := ["gr", "gw", "own", "rr", "rw", "ss", "wr", "ww"]
/-- a program: one to three cores of at most five instructions, ten in all -/
structure POk (p : List (List Ins)) : Prop where
  ins : ∀ c ∈ p, ∀ i ∈ c, i.ok
  n1 : 1 ≤ p.length
  n3 : p.length ≤ 3
  c5 : ∀ c ∈ p, c.length ≤ 5
  all : (p.map List.length).sum ≤ 10
end CM

set_option Elab.async false
set_option linter.all false
set_option maxRecDepth 100000
set_option maxHeartbeats 2000000
namespace CM
open PySem PySem.Spec L2 DL
open PyProof.Rows hiding St
@[simp] theorem lit_eq (a b : String) : (Str.ofString a = Str.ofString b) ↔ a = b := ⟨ofString_inj, congrArg _⟩
theorem gv {ρ : DL.Env} {n : Nat} {d : D} {st : Sto} (h : ρ[n]? = some (some d)) : gVar n ρ st = .ok d st := by
  unfold gVar
  rw [h]
theorem ints_map (k : Nat) : intsD 0 k = (List.range k).map fun j : Nat => D.int (j : Int) := by simp [intsD]
theorem bls_true {α : Type} : ∀ c : List α, bls (c.map fun _ => D.bl true) = some (c.map fun _ => true)
  | [] => rfl
  | _ :: c => by rw [List.map_cons, b_cons, bls_true c]; rfl
theorem words_ok : ∀ w ∈ words8, PyData.strOk w = true := by
  intro w hw
  simp only [List.mem_cons, List.not_mem_nil, or_false] at hw
  rcases hw with rfl | rfl | rfl | rfl | rfl | rfl | rfl | rfl <;> exact strOk_of _
theorem words_asc : Asc words8 := by
  decide +kernel
/-- a part of the words in their order is a design, and nothing else -/
theorem design_iff (ss : List Str) : ss = (words8.filter fun w => decide (w ∈ ss)) ↔ (∀ s ∈ ss, s ∈ words8) ∧ ss = sortS ss := by
  constructor
  · intro h
    have hm : ∀ s ∈ ss, s ∈ words8 := fun s hs => by
      rw [h] at hs
      exact (List.mem_filter.mp hs).1
    refine ⟨hm, ?_⟩
    have ha : Asc ss := by
      rw [h]
      exact words_asc.filter _
    exact asc_one ha (asc_sortS ss) fun z => mem_sortS.symm
  · rintro ⟨hm, h⟩
    have ha : Asc ss := by
      rw [h]
      exact asc_sortS ss
    refine asc_one ha (words_asc.filter _) fun z => ?_
    simp only [List.mem_filter, decide_eq_true_eq]
    exact ⟨fun hz => ⟨hm z hz, hz⟩, fun hz => hz.2⟩
theorem sub_design (ss : List Str) (h : ss.Sublist words8) : ss = (words8.filter fun w => decide (w ∈ ss)) := by
  have ha : Asc ss := words_asc.sublist h
  exact (design_iff ss).mpr ⟨fun s hs => h.subset hs, asc_one ha (asc_sortS ss) fun z => mem_sortS.symm⟩
theorem des_ok {sub : List Str} (h : sub.Sublist words8) : (sub.map D.str).all (okB 63) = true := okB_strs fun s hs => words_ok s (h.subset hs)
theorem in_des {sub : List Str} (h : sub.Sublist words8) (w : String) (st : Sto) : mIn false (.str (Str.ofString w)) (.tup (sub.map D.str)) st = some (.bl (decide (Str.ofString w ∈ sub))) := by
  rw [in_tup, ok_lit, ok_tup, des_ok h, any_strs]
  rfl
theorem nin_des {sub : List Str} (h : sub.Sublist words8) (w : String) (st : Sto) : mIn true (.str (Str.ofString w)) (.tup (sub.map D.str)) st = some (.bl (!decide (Str.ofString w ∈ sub))) := by
  rw [in_tup, ok_lit, ok_tup, des_ok h, any_strs]
  rfl
/-- data of the same form at every place, not deeper than n -/
def alk : Nat → D → Bool
  | 0, _ => false
  | n + 1, .tup l => l.all (alk n) && decide (l.length ≤ 1000)
  | n + 1, .lst l => l.all (alk n) && decide (l.length ≤ 1000)
  | _ + 1, .str x => PyData.strOk x
  | _ + 1, .int _ => true
  | _ + 1, .bl _ => true
  | _ + 1, .non => true
  | _ + 1, _ => false
theorem atI_mem {l : List D} {k : Nat} (h : k < l.length) : atI l ((k : Nat) : Int) = some l[k] := atI_nat (by simp [h])
end CM

set_option Elab.async false
set_option linter.all false
set_option maxRecDepth 100000
set_option maxHeartbeats 4000000
namespace K06
open PySem PySem.Spec L2 DL CM
open PyProof.Rows hiding St
--DESIGN
theorem filt_go (l : List D) (hl : okD (.tup l) = true) (st : Sto) : ∀ ws : List Str, (∀ w ∈ ws, PyData.strOk w = true) →
    compGo [some (.tup l), none] (.nm 1) (gBl (gOp (mIn false) (gVar 1) (gVar 0))) (gVar 1) (ws.map D.str) st = .ok ((ws.filter fun w => l.any fun z => eqD z (.str w)).map D.str) st
  | [], _ => rfl
  | w :: ws, h => by
    have ih := filt_go l hl st ws fun x hx => h x (List.mem_cons_of_mem _ hx)
    have hw : okD (.str w) = true := okStr (h w List.mem_cons_self)
    cases e : l.any fun z => eqD z (.str w) <;> simp [k_nm, in_tup, hw, ih, e, -ok_tup, hl]
theorem is_design_tup (l : List D) (hl : okD (.tup l) = true) (st : Sto) : m_is_design [.tup l] st = .ok (.bl (eqD (.tup l) (.tup ((words8.filter fun w => l.any fun z => eqD z (.str w)).map D.str)))) st := by
  have e := filt_go l hl st words8 words_ok
  have ho : okD (.tup ((words8.filter fun w => l.any fun z => eqD z (.str w)).map D.str)) = true := by
    rw [ok_tup]
    exact okB_strs fun s hs => words_ok s ((List.mem_filter.mp hs).1)
  simp only [List.map_cons, List.map_nil] at e
  simp [m_is_design, g_is_design, isiB, c_WORDS, e, -ok_tup, hl, ho, -q_tup]
theorem is_design_strs (ss : List Str) (hs : ∀ s ∈ ss, PyData.strOk s = true) (st : Sto) : m_is_design [.tup (ss.map D.str)] st = .ok (.bl (decide (ss = words8.filter fun w => decide (w ∈ ss)))) st := by
  rw [is_design_tup _ (by rw [ok_tup]; exact okB_strs hs)]
  simp only [any_strs, q_tup, qs_strs]
theorem is_design_go {sub : List Str} (h : sub.Sublist words8) (st : Sto) : m_is_design [.tup (sub.map D.str)] st = .ok (.bl true) st := by
  have e := is_design_strs sub (fun s hs => words_ok s (h.subset hs)) st
  rw [decide_eq_true (sub_design sub h)] at e
  exact e
theorem check_design_go {sub : List Str} (h : sub.Sublist words8) (st : Sto) : m_check_design [.tup (sub.map D.str)] st = .ok .non st := by
  simp [m_check_design, g_check_design, is_design_go h st]
abbrev has (w : Str) (sub : List Str) : Bool := decide (w ∈ sub)
def belowB (a b : List Str) : Bool :=
  !((has "rr" b && !has "rr" a) || (has "rw" b && !has "rw" a) || (has "wr" b && !has "wr" a) || (has "ww" b && !has "ww" a) || (has "ss" b && !has "ss" a)) && !(has "gw" b && !(has "gw" a || has "rw" a)) && !(has "gr" b && !(has "gr" a || (has "rr" a && has "ss" a))) && (!has "own" a || has "own" b || (has "ww" a && (has "wr" a || (!has "rr" b && !has "gr" b))))
theorem in_w {sub : List Str} (h : sub.Sublist words8) {w : Str} (hw : PyData.strOk w = true) (neg : Bool) (st : Sto) : mIn neg (.str w) (.tup (sub.map D.str)) st = some (.bl (if neg then !has w sub else has w sub)) := by
  have ho : okD (.tup (sub.map D.str)) = true := by
    rw [ok_tup]
    exact okB_strs fun s hs => words_ok s (h.subset hs)
  rw [in_tup, okStr hw, ho, any_strs]
  rfl
section
variable {a b : List Str} (ha : a.Sublist words8) (hb : b.Sublist words8)
include ha
theorem guarded_w (st : Sto) : m_keeps_guarded_writings [.tup (a.map D.str)] st = .ok (.bl (has "gw" a || has "rw" a)) st := by
  by_cases h1 : ("gw" : Str) ∈ a <;> simp [m_keeps_guarded_writings, g_keeps_guarded_writings, in_des ha, nin_des ha, has, h1]
theorem guarded_r (st : Sto) : m_keeps_guarded_readings [.tup (a.map D.str)] st = .ok (.bl (has "gr" a || (has "rr" a && has "ss" a))) st := by
  by_cases h1 : ("gr" : Str) ∈ a <;> by_cases h2 : ("rr" : Str) ∈ a <;> simp [m_keeps_guarded_readings, g_keeps_guarded_readings, in_des ha, nin_des ha, has, h1, h2]
include hb
theorem hides_go (st : Sto) : m_hides_own [.tup (a.map D.str), .tup (b.map D.str)] st = .ok (.bl (has "ww" a && (has "wr" a || (!has "rr" b && !has "gr" b)))) st := by
  by_cases h1 : ("ww" : Str) ∈ a <;> by_cases h2 : ("wr" : Str) ∈ a <;> by_cases h3 : ("rr" : Str) ∈ b <;> simp [m_hides_own, g_hides_own, in_des ha, nin_des ha, in_des hb, nin_des hb, has, h1, h2, h3]
theorem keep_comp (ρ : DL.Env) (h3 : ρ.length = 3) (v0 : ρ[0]? = some (some (.tup (a.map D.str)))) (v1 : ρ[1]? = some (some (.tup (b.map D.str)))) (st : Sto) : ∀ ws : List Str, (∀ w ∈ ws, PyData.strOk w = true) → compGo ρ (.nm 2) gYes (gAnd (gOp (mIn false) (gVar 2) (gVar 1)) (gOp (mIn true) (gVar 2) (gVar 0))) (ws.map D.str) st = .ok (ws.map fun w => .bl (has w b && !has w a)) st
  | [], _ => rfl
  | w :: ws, h => by
    have ih := keep_comp ρ h3 v0 v1 st ws fun x hx => h x (List.mem_cons_of_mem _ hx)
    have g0 : ∀ z st, gVar 0 (ρ.set 2 z) st = .ok (.tup (a.map D.str)) st := fun z st => gv (by rw [List.getElem?_set_ne (by decide), v0])
    have g1 : ∀ z st, gVar 1 (ρ.set 2 z) st = .ok (.tup (b.map D.str)) st := fun z st => gv (by rw [List.getElem?_set_ne (by decide), v1])
    have g2 : ∀ z st, gVar 2 (ρ.set 2 (some z)) st = .ok z st := fun z st => gv (by rw [List.getElem?_set_self (by omega)])
    have hw := h w List.mem_cons_self
    cases q : has w b <;> simp [k_nm, g0, g1, g2, in_w ha hw, in_w hb hw, q, ih]
abbrev keep5 : List Str := ["rr", "rw", "wr", "ww", "ss"]
theorem is_below_go (st : Sto) : m_is_below [.tup (a.map D.str), .tup (b.map D.str)] st = .ok (.bl (belowB a b)) st := by
  have e1 := keep_comp ha hb [some (.tup (a.map D.str)), some (.tup (b.map D.str)), none] rfl rfl rfl st keep5 (by decide +kernel)
  have e2 := guarded_w ha st
  have e3 := guarded_r ha st
  have e4 := hides_go ha hb st
  have eK : c_KEEPING = .tup (keep5.map D.str) := rfl
  have e5 : mAny [.lst (keep5.map fun w => D.bl (has w b && !has w a))] st = some (.bl ((has "rr" b && !has "rr" a) || (has "rw" b && !has "rw" a) || (has "wr" b && !has "wr" a) || (has "ww" b && !has "ww" a) || (has "ss" b && !has "ss" a))) := by
    simp [mAny, bls, Bool.or_assoc]
  have q1 := in_des hb "gw" st
  have q2 := in_des hb "gr" st
  have q3 := nin_des ha "own" st
  have q4 := in_des hb "own" st
  unfold belowB
  have h1 : ∀ w s, decide (w ∈ s) = has w s := fun _ _ => rfl
  rw [h1] at q1 q2 q3 q4
  generalize ((has "rr" b && !has "rr" a) || (has "rw" b && !has "rw" a) || (has "wr" b && !has "wr" a) || (has "ww" b && !has "ww" a) || (has "ss" b && !has "ss" a)) = x1 at e5 ⊢
  generalize (has "gw" a || has "rw" a) = x2 at e2 ⊢
  generalize (has "gr" a || (has "rr" a && has "ss" a)) = x3 at e3 ⊢
  generalize (has "ww" a && (has "wr" a || (!has "rr" b && !has "gr" b))) = x4 at e4 ⊢
  generalize (keep5.map fun w => D.bl (has w b && !has w a)) = bl at e1 e5
  generalize has "gw" b = x5 at q1 ⊢
  generalize has "gr" b = x6 at q2 ⊢
  generalize has "own" a = x7 at q3 ⊢
  generalize has "own" b = x8 at q4 ⊢
  generalize keep5.map D.str = ks at e1 eK
  generalize D.tup (a.map D.str) = da at *
  generalize D.tup (b.map D.str) = db at *
  cases x1 <;> cases x2 <;> cases x3 <;> cases x5 <;> cases x6 <;> cases x7 <;> simp [m_is_below, g_is_below, eK, wipeE, e1, e2, e3, e4, e5, q1, q2, q3, q4]
  all_goals (cases x8 <;> simp)
theorem below_go (st : Sto) : m_below [.tup (a.map D.str), .tup (b.map D.str)] st = .ok (.bl (belowB a b)) st := by
  simp [m_below, g_below, check_design_go ha, check_design_go hb, is_below_go ha hb]
end
section
variable {a b : List Str} (ha : a.Sublist words8) (hb : b.Sublist words8)
include ha hb
theorem alike_go (st : Sto) : m_alike [.tup (a.map D.str), .tup (b.map D.str)] st = .ok (.bl (belowB a b && belowB b a)) st := by
  have e1 := is_below_go ha hb st
  have e2 := is_below_go hb ha st
  cases q1 : belowB a b <;> cases q2 : belowB b a <;> simp [m_alike, g_alike, check_design_go ha, check_design_go hb, e1, e2, q1, q2]
end
end K06

set_option Elab.async false
set_option linter.all false
set_option maxRecDepth 100000
set_option maxHeartbeats 4000000
namespace K06
open PySem PySem.Spec L2 DL CM
open PyProof.Rows hiding St
structure Bt where
  gr : Bool
  gw : Bool
  own : Bool
  rr : Bool
  rw : Bool
  ss : Bool
  wr : Bool
  ww : Bool
def wd : Bool → Str → List Str → List Str
  | true, w, l => w :: l
  | false, _, l => l
def dL (B : Bt) : List Str := wd B.gr "gr" (wd B.gw "gw" (wd B.own "own" (wd B.rr "rr" (wd B.rw "rw" (wd B.ss "ss" (wd B.wr "wr" (wd B.ww "ww" [])))))))
abbrev dD (B : Bt) : D := .tup ((dL B).map D.str)
theorem filt_wd (p : Str → Bool) (w : Str) (l : List Str) : (w :: l).filter p = wd (p w) w (l.filter p) := by
  rw [List.filter_cons]
  cases p w <;> rfl
theorem sub_bits {sub : List Str} (h : sub.Sublist words8) : ∃ B, sub = dL B := by
  have e := sub_design sub h
  generalize (fun w => decide (w ∈ sub)) = p at e
  refine ⟨⟨p "gr", p "gw", p "own", p "rr", p "rw", p "ss", p "wr", p "ww"⟩, ?_⟩
  rw [e]
  simp only [filt_wd, List.filter_nil, dL]
def allB (f : Bool → Bool) : Bool := f false && f true
theorem allB_at {f : Bool → Bool} (h : allB f = true) : ∀ b, f b = true
  | false => (Bool.and_eq_true _ _ ▸ h).1
  | true => (Bool.and_eq_true _ _ ▸ h).2
def allBt (f : Bt → Bool) : Bool := allB fun a => allB fun b => allB fun c => allB fun d => allB fun e => allB fun g => allB fun h => allB fun i => f ⟨a, b, c, d, e, g, h, i⟩
theorem allBt_at {f : Bt → Bool} (h : allBt f = true) (B : Bt) : f B = true := by
  obtain ⟨a, b, c, d, e, g, i, j⟩ := B
  exact allB_at (allB_at (allB_at (allB_at (allB_at (allB_at (allB_at (allB_at h a) b) c) d) e) g) i) j
def subB : List Str → List Str → Bool
  | [], _ => true
  | _ :: _, [] => false
  | a :: l, b :: m => if a = b then subB l m else subB (a :: l) m
theorem subB_ok : ∀ {l m : List Str}, subB l m = true → l.Sublist m
  | [], m, _ => List.nil_sublist m
  | _ :: _, [], h => by cases h
  | a :: l, b :: m, h => by
    unfold subB at h
    split at h
    · rename_i e
      subst e
      exact (subB_ok h).cons_cons _
    · exact (subB_ok h).cons _
theorem dL_sub (B : Bt) : (dL B).Sublist words8 := by
  refine subB_ok (allBt_at (f := fun B => subB (dL B) words8) ?_ B)
  kernel_rfl
/-- its normal design -/
def nB (B : Bt) : Bt := { B with gr := B.gr || (B.rr && B.ss), gw := B.gw || B.rw, own := B.own && !(B.ww && (B.wr || (!B.rr && !B.gr))) }
def same (A B : Bt) : Bool := (A.gr == B.gr) && (A.gw == B.gw) && (A.own == B.own) && (A.rr == B.rr) && (A.rw == B.rw) && (A.ss == B.ss) && (A.wr == B.wr) && (A.ww == B.ww)
def belF (a b : Bt) : Bool :=
  !((b.rr && !a.rr) || (b.rw && !a.rw) || (b.wr && !a.wr) || (b.ww && !a.ww) || (b.ss && !a.ss)) && !(b.gw && !(a.gw || a.rw)) && !(b.gr && !(a.gr || (a.rr && a.ss))) && (!a.own || b.own || (a.ww && (a.wr || (!b.rr && !b.gr))))
theorem has_all : allBt (fun B => has "gr" (dL B) == B.gr && has "gw" (dL B) == B.gw && has "own" (dL B) == B.own && has "rr" (dL B) == B.rr && has "rw" (dL B) == B.rw && has "ss" (dL B) == B.ss && has "wr" (dL B) == B.wr && has "ww" (dL B) == B.ww) = true := by kernel_rfl
theorem bel_at (A B : Bt) : belowB (dL A) (dL B) = belF A B := by
  have h : ∀ B, has "gr" (dL B) = B.gr ∧ has "gw" (dL B) = B.gw ∧ has "own" (dL B) = B.own ∧ has "rr" (dL B) = B.rr ∧ has "rw" (dL B) = B.rw ∧ has "ss" (dL B) = B.ss ∧ has "wr" (dL B) = B.wr ∧ has "ww" (dL B) = B.ww := fun B => by
    have := allBt_at has_all B
    simp only [Bool.and_eq_true, beq_iff_eq] at this
    simpa only [and_assoc] using this
  obtain ⟨a1, a2, a3, a4, a5, a6, a7, a8⟩ := h A
  obtain ⟨b1, b2, b3, b4, b5, b6, b7, b8⟩ := h B
  unfold belowB belF
  rw [a1, a2, a3, a4, a5, a6, a7, a8, b1, b2, b3, b4, b5, b6, b7, b8]
theorem meet_all : allBt (fun A => allBt fun B => (belF A B && belF B A) == same (nB A) (nB B)) = true := by kernel_rfl
theorem same_iff {A B : Bt} : same A B = true ↔ A = B := by
  obtain ⟨a1, a2, a3, a4, a5, a6, a7, a8⟩ := A
  obtain ⟨b1, b2, b3, b4, b5, b6, b7, b8⟩ := B
  simp [same, and_assoc]
theorem meet_at (A B : Bt) : (belF A B && belF B A) = same (nB A) (nB B) := by
  have := allBt_at (allBt_at meet_all A) B
  exact beq_iff_eq.mp this
end K06

set_option Elab.async false
set_option linter.all false
set_option maxRecDepth 100000
set_option maxHeartbeats 0
namespace K06
open PySem PySem.Spec L2 DL CM
open PyProof.Rows hiding St
theorem lawN_at (B : Bt) (st : Sto) : m__law_normal [dD B] st = .ok (dD (nB B)) st := by
  obtain ⟨a, b, c, d, e, g, i, j⟩ := B
  cases a <;> cases b <;> cases c <;> cases d <;> cases e <;> cases g <;> cases i <;> cases j <;> kernel_rfl
theorem norm_at (B : Bt) (st : Sto) : m_normal [dD B] st = .ok (dD (nB B)) st := by
  obtain ⟨a, b, c, d, e, g, i, j⟩ := B
  cases a <;> cases b <;> cases c <;> cases d <;> cases e <;> cases g <;> cases i <;> cases j <;> kernel_rfl
end K06

set_option Elab.async false
set_option linter.all false
set_option maxRecDepth 100000
set_option maxHeartbeats 4000000
namespace K06
open PySem PySem.Spec L2 DL CM
open PyProof.Rows hiding St
section
variable {ns : List Int} {sc : D} (hS : Scr ns sc) {n : Nat}
include hS
theorem taken_go (many : Int) (h : 0 < many) (h2 : many < 1000000) (p q c : Int) (st : Sto) (hr : st[n]? = some (rowS sc p q c)) (hp : 0 ≤ p) :
    ∃ f p' q' c', m__law_taken [.ref n, .int many] st = .ok (.int f) (st.set n (rowS sc p' q' c')) ∧ 0 ≤ f ∧ f < many ∧ 0 ≤ p' := by
  obtain ⟨hI, hL⟩ := hS
  have hn : n < st.length := (List.getElem?_eq_some_iff.mp hr).1
  have hm : many < 1073741824 := by omega
  have r1 : ∀ x : Int, (st.set n (.lst [sc, .int p, .int q, .int x]))[n]? = some (.lst [sc, .int p, .int q, .int x]) := fun x => get_set hr
  have r2 : ∀ x : Int, (st.set n (.lst [sc, .int x, .int q, .int c]))[n]? = some (.lst [sc, .int x, .int q, .int c]) := fun x => get_set hr
  have r3 : ∀ x y : Int, (st.set n (.lst [sc, .int x, .int y, .int c]))[n]? = some (.lst [sc, .int x, .int y, .int c]) := fun x y => get_set hr
  by_cases hc : 0 < c
  · refine ⟨c % many, p, q, c / many, ?_, Int.emod_nonneg _ (by omega), Int.emod_lt_of_pos _ h, hp⟩
    simp [m__law_taken, g__law_taken, ix_at hr, put_lit hr, hc, h, hm]
  · by_cases hl : ns.length < p + 1
    · refine ⟨((q * 48271 + 11) % 2147483647 / 7) % many, p + 1, (q * 48271 + 11) % 2147483647, c, ?_, Int.emod_nonneg _ (by omega), Int.emod_lt_of_pos _ h, by omega⟩
      simp [m__law_taken, g__law_taken, ix_at hr, put_lit hr, ix_at (r2 _), put_lit (r2 _), ix_at (r3 _ _), put_lit (r3 _ _), hc, h, hl, hI, hL]
    · have hi : p.toNat < ns.length := by omega
      have hx : atI (ns.map D.int) p = some (.int ns[p.toNat]) := atI_nat' hp (by simp [hi])
      generalize ns[p.toNat] = x at hx
      by_cases hb : 1000000000000000000 ≤ x
      · refine ⟨x % many, p + 1, (q * 48271 + x + 11) % 2147483647, x / many, ?_, Int.emod_nonneg _ (by omega), Int.emod_lt_of_pos _ h, by omega⟩
        simp [m__law_taken, g__law_taken, ix_at hr, put_lit hr, ix_at (r2 _), put_lit (r2 _), ix_at (r3 _ _), put_lit (r3 _ _), hc, h, hl, hI, hL, hx, hm, hb]
      · refine ⟨x % many, p + 1, (q * 48271 + x + 11) % 2147483647, c, ?_, Int.emod_nonneg _ (by omega), Int.emod_lt_of_pos _ h, by omega⟩
        simp [m__law_taken, g__law_taken, ix_at hr, put_lit hr, ix_at (r2 _), put_lit (r2 _), ix_at (r3 _ _), put_lit (r3 _ _), hc, h, hl, hI, hL, hx, hm, hb]
/-- what a draw leaves: another row -/
abbrev Row (n : Nat) (sc : D) (st st' : Sto) : Prop := ∃ p q c, st' = st.set n (rowS sc p q c) ∧ 0 ≤ p
theorem Row.trans {a b d : Sto} (h : Row n sc a b) (h' : Row n sc b d) : Row n sc a d := by
  obtain ⟨p, q, c, rfl, hp⟩ := h
  obtain ⟨p', q', c', rfl, hp'⟩ := h'
  exact ⟨p', q', c', by rw [List.set_set], hp'⟩
/-- a row stands at n -/
abbrev HasRow (n : Nat) (sc : D) (st : Sto) : Prop := ∃ p q c, st[n]? = some (rowS sc p q c) ∧ 0 ≤ p
theorem HasRow.row {st st' : Sto} (h : HasRow n sc st) (r : Row n sc st st') : HasRow n sc st' := by
  obtain ⟨p, q, c, h, _⟩ := h
  obtain ⟨p', q', c', rfl, hp'⟩ := r
  exact ⟨p', q', c', get_set h, hp'⟩
theorem HasRow.self {st : Sto} (h : HasRow n sc st) : Row n sc st st := by
  obtain ⟨p, q, c, h, hp⟩ := h
  refine ⟨p, q, c, ?_, hp⟩
  obtain ⟨hl, e⟩ := List.getElem?_eq_some_iff.mp h
  rw [← e, List.set_getElem_self]
theorem draw (many : Int) (h : 0 < many) (h2 : many < 1000000) {st : Sto} (hr : HasRow n sc st) :
    ∃ f st', m__law_taken [.ref n, .int many] st = .ok (.int f) st' ∧ 0 ≤ f ∧ f < many ∧ Row n sc st st' ∧ HasRow n sc st' := by
  obtain ⟨p, q, c, hr', hp⟩ := id hr
  obtain ⟨f, p', q', c', e, h0, h1, hp'⟩ := taken_go hS many h h2 p q c st hr' hp
  have r : Row n sc st (st.set n (rowS sc p' q' c')) := ⟨p', q', c', rfl, hp'⟩
  exact ⟨f, _, e, h0, h1, r, HasRow.row hS hr r⟩
--PICK
theorem pick_go (l : List D) (h : 0 < l.length) (h2 : l.length < 1000000) {st : Sto} (hr : HasRow n sc st) :
    ∃ x st', m__law_pick [.ref n, .lst l] st = .ok x st' ∧ x ∈ l ∧ Row n sc st st' ∧ HasRow n sc st' := by
  obtain ⟨f, st', e, h0, h1, r, hr'⟩ := draw hS l.length (by omega) (by omega) hr
  have hi : f.toNat < l.length := by omega
  have hx : atI l f = some l[f.toNat] := atI_nat' h0 (by simp [hi])
  refine ⟨l[f.toNat], st', ?_, List.getElem_mem hi, r, hr'⟩
  simp [m__law_pick, g__law_pick, e, hx]
--DESIGN
theorem design_comp : ∀ (ws : List Str) {st : Sto}, HasRow n sc st →
    ∃ (sub : List Str) (st' : Sto), compGo [some (.ref n), none] (.nm 1) (gBl (gOp mEq (gCall m__law_taken (aCons (gVar 0) (aCons (gC (.int 2)) aNil))) (gC (.int 0)))) (gVar 1) (ws.map D.str) st = .ok (sub.map D.str) st' ∧ sub.Sublist ws ∧ Row n sc st st' ∧ HasRow n sc st'
  | [], st, hr => ⟨[], st, rfl, .slnil, HasRow.self hS hr, hr⟩
  | w :: ws, st, hr => by
    obtain ⟨f, s1, e, f0, f1, r1, hr1⟩ := draw hS 2 (by decide) (by decide) hr
    obtain ⟨sub, s2, e2, hs, r2, hr2⟩ := design_comp ws hr1
    by_cases hf : f = 0
    · exact ⟨w :: sub, s2, by simp [k_nm, e, e2, hf], hs.cons_cons _, Row.trans hS r1 r2, hr2⟩
    · exact ⟨sub, s2, by simp [k_nm, e, e2, hf], hs.cons _, Row.trans hS r1 r2, hr2⟩
theorem design_go {st : Sto} (hr : HasRow n sc st) :
    ∃ (sub : List Str) (st' : Sto), m__law_design [.ref n] st = .ok (.tup (sub.map D.str)) st' ∧ sub.Sublist words8 ∧ Row n sc st st' ∧ HasRow n sc st' := by
  obtain ⟨sub, s1, e, hs, r1, hr1⟩ := design_comp hS words8 hr
  refine ⟨sub, s1, ?_, hs, r1, hr1⟩
  simp only [List.map_cons, List.map_nil] at e
  simp [m__law_design, g__law_design, e]
theorem turn_comp : ∀ (k : List D) (ρ : DL.Env), ρ.length = 6 → ρ[0]? = some (some (.ref n)) → ρ[2]? = some (some (.lst (words8.map D.str))) → ∀ {st : Sto}, HasRow n sc st →
    ∃ (ts : List Str) (st' : Sto), compGo ρ (.nm 4) gYes (gCall m__law_pick (aCons (gVar 0) (aCons (gVar 2) aNil))) k st = .ok (ts.map D.str) st' ∧ (∀ t ∈ ts, t ∈ words8) ∧ Row n sc st st' ∧ HasRow n sc st'
  | [], ρ, _, _, _, st, hr => ⟨[], st, rfl, fun t h => (by cases h), HasRow.self hS hr, hr⟩
  | d :: k, ρ, hl, h0, h2, st, hr => by
    obtain ⟨x, s1, e, hx, r1, hr1⟩ := pick_go hS (words8.map D.str) (by decide) (by decide) hr
    obtain ⟨ts, s2, e2, ht, r2, hr2⟩ := turn_comp k ρ hl h0 h2 hr1
    obtain ⟨w, hw, rfl⟩ := List.mem_map.mp hx
    have g0 : ∀ z st, gVar 0 (ρ.set 4 z) st = .ok (.ref n) st := fun z st => gv (by rw [List.getElem?_set_ne (by decide), h0])
    have g2 : ∀ z st, gVar 2 (ρ.set 4 z) st = .ok (.lst (words8.map D.str)) st := fun z st => gv (by rw [List.getElem?_set_ne (by decide), h2])
    refine ⟨w :: ts, s2, ?_, fun t h => (List.mem_cons.mp h).elim (fun z => by rw [z]; exact hw) (ht t), Row.trans hS r1 r2, hr2⟩
    generalize words8.map D.str = W at *
    simp [k_nm, g0, g2, e, e2]
omit hS in
theorem near_comp {one ts : List Str} (h1 : one.Sublist words8) (ht : ∀ t ∈ ts, t ∈ words8) (ρ : DL.Env) (hl : ρ.length = 6) (v1 : ρ[1]? = some (some (.tup (one.map D.str)))) (v3 : ρ[3]? = some (some (.lst (ts.map D.str)))) (st : Sto) : ∀ ws : List Str, (∀ w ∈ ws, PyData.strOk w = true) →
    compGo ρ (.nm 5) (gBl (gOp mNe (gOp (mIn false) (gVar 5) (gVar 1)) (gOp (mIn false) (gVar 5) (gVar 3)))) (gVar 5) (ws.map D.str) st = .ok ((ws.filter fun w => decide (w ∈ one) != decide (w ∈ ts)).map D.str) st
  | [], _ => rfl
  | w :: ws, h => by
    have ih := near_comp h1 ht ρ hl v1 v3 st ws fun x hx => h x (List.mem_cons_of_mem _ hx)
    have hw := h w List.mem_cons_self
    have g1 : ∀ z st, gVar 1 (ρ.set 5 z) st = .ok (.tup (one.map D.str)) st := fun z st => gv (by rw [List.getElem?_set_ne (by decide), v1])
    have g3 : ∀ z st, gVar 3 (ρ.set 5 z) st = .ok (.lst (ts.map D.str)) st := fun z st => gv (by rw [List.getElem?_set_ne (by decide), v3])
    have g5 : ∀ z st, gVar 5 (ρ.set 5 (some z)) st = .ok z st := fun z st => gv (by rw [List.getElem?_set_self (by omega)])
    have i1 : ∀ st, mIn false (.str w) (.tup (one.map D.str)) st = some (.bl (decide (w ∈ one))) := fun st => by
      rw [in_tup, okStr hw, ok_tup, des_ok h1, any_strs]
      rfl
    have i3 : ∀ st, mIn false (.str w) (.lst (ts.map D.str)) st = some (.bl (decide (w ∈ ts))) := fun st => by
      rw [in_lst, okStr hw, ok_lst, okB_strs fun s hs => words_ok s (ht s hs), any_strs]
      rfl
    cases q1 : decide (w ∈ one) <;> cases q3 : decide (w ∈ ts) <;> simp [k_nm, g1, g3, g5, i1, i3, q1, q3, ih]
theorem near_go {one : List Str} (h1 : one.Sublist words8) {st : Sto} (hr : HasRow n sc st) :
    ∃ (sub : List Str) (st' : Sto), m__law_near [.ref n, .tup (one.map D.str)] st = .ok (.tup (sub.map D.str)) st' ∧ sub.Sublist words8 ∧ Row n sc st st' ∧ HasRow n sc st' := by
  obtain ⟨f, s1, e, f0, f1, r1, hr1⟩ := draw hS 3 (by decide) (by decide) hr
  obtain ⟨ts, s2, e2, ht, r2, hr2⟩ := turn_comp hS (intsD 0 f.toNat) [some (.ref n), some (.tup (one.map D.str)), some (.lst (words8.map D.str)), none, none, none] rfl rfl rfl hr1
  have e3 := near_comp h1 ht [some (.ref n), some (.tup (one.map D.str)), some (.lst (words8.map D.str)), some (.lst (ts.map D.str)), none, none] rfl rfl rfl s2 words8 words_ok
  have sl : (words8.filter fun w => decide (w ∈ one) != decide (w ∈ ts)).Sublist words8 := List.filter_sublist
  generalize (words8.filter fun w => decide (w ∈ one) != decide (w ∈ ts)) = out at e3 sl
  refine ⟨out, s2, ?_, sl, Row.trans hS r1 r2, hr2⟩
  generalize one.map D.str = od at *
  generalize ts.map D.str = td at *
  generalize out.map D.str = ud at *
  simp only [List.map_cons, List.map_nil] at e2 e3
  have hf : f ≤ 1000000 ∧ -1000000 ≤ f := by omega
  simp [m__law_near, g__law_near, e, hf, e2, e3]
end
end K06

set_option Elab.async false
set_option linter.all false
set_option maxRecDepth 1000000
set_option maxHeartbeats 0
namespace K06
open PySem PySem.Spec L2 DL CM
open PyProof.Rows hiding St
abbrev t1 : G Fl := (sSet 1 (gLstM (aCons (gVar 0) (aCons (gC (.int 0)) (aCons (gC (.int 14246)) (aCons (gC (.int 0)) aNil))))))
abbrev t2 : G Fl := (sSet 2 (gCall m__law_design (aCons (gVar 1) aNil)))
abbrev t3 : G Fl := (sSet 3 (gCall m__law_near (aCons (gVar 1) (aCons (gVar 2) aNil))))
abbrev t4 : G Fl := (sSet 4 (gCall m__law_normal (aCons (gVar 2) aNil)))
abbrev t5 : G Fl := (sIf (gTOr (gTNot (gTr (gCall (m__law_alike 4) (aCons (gCall m_normal (aCons (gVar 2) aNil)) (aCons (gVar 4) aNil))))) (gTOr (gBl (gOp mNe (gCall m_normal (aCons (gVar 4) aNil)) (gVar 4))) (gBl (gOp mIsNot (gCall m_alike (aCons (gVar 2) (aCons (gVar 4) aNil))) (gC (.bl true)))))) (sRet (gC (.bl false))) sNext)
abbrev t6 : G Fl := (sIf (gTNot (gTr (gCall (m__law_alike 4) (aCons (gCall m_alike (aCons (gVar 2) (aCons (gVar 3) aNil))) (aCons (gOp mEq (gCall m__law_normal (aCons (gVar 2) aNil)) (gCall m__law_normal (aCons (gVar 3) aNil))) aNil))))) (sRet (gC (.bl false))) sNext)
abbrev t7 : G Fl := (sSet 5 (gCall m_all_designs aNil))
abbrev t8 : G Fl := (sIf (gTOr (gBl (gOp mNe (gCB mLen (aCons (gVar 5) aNil)) (gC (.int 256)))) (gTOr (gBl (gOp mNe (gVar 5) (gCB mTuple (aCons (gCB mSortSetL (aCons (gVar 5) aNil)) aNil)))) (gTOr (gBl (gOp (mIn true) (gVar 2) (gVar 5))) (gBl (gOp mIsNot (gCall m_is_design (aCons (gVar 3) aNil)) (gC (.bl true))))))) (sRet (gC (.bl false))) sNext)
abbrev t9 : G Fl := (sSet 6 (gCall m_normals aNil))
abbrev t10 : G Fl := (sIf (gTOr (gBl (gOp mNe (gVar 6) (gCB mTuple (aCons (gComp [9] (gSeq (gVar 5)) (.nm 9) (gBl (gOp mEq (gCall m__law_normal (aCons (gVar 9) aNil)) (gVar 9))) (gVar 9)) aNil)))) (gBl (gOp mNe (gOp (mIn false) (gVar 2) (gVar 6)) (gOp mEq (gVar 4) (gVar 2))))) (sRet (gC (.bl false))) sNext)
abbrev t11 : G Fl := (sPar 7 8 (aCons (gCall m_normal (aCons (gTupD (aCons (gC (.str "gr")) (aCons (gC (.str "gw")) (aCons (gC (.str "own")) (aCons (gC (.str "rr")) (aCons (gC (.str "rw")) (aCons (gC (.str "ss")) (aCons (gC (.str "wr")) (aCons (gC (.str "ww")) aNil))))))))) aNil)) (aCons (gCall m_normal (aCons (gTupD (aCons (gC (.str "own")) aNil)) aNil)) aNil)))
abbrev t12 : G Fl := (sRet (gAnd (gOp mIs (gCall m_below (aCons (gVar 7) (aCons (gVar 2) aNil))) (gC (.bl true))) (gAnd (gOp mIs (gCall m_below (aCons (gVar 2) (aCons (gVar 8) aNil))) (gC (.bl true))) (gOp mEq (gVar 7) (gTupD (aCons (gC (.str "gr")) (aCons (gC (.str "gw")) (aCons (gC (.str "rr")) (aCons (gC (.str "rw")) (aCons (gC (.str "ss")) (aCons (gC (.str "wr")) (aCons (gC (.str "ww")) aNil))))))))))))
abbrev restG : G Fl := (sSeq t4 (sSeq t5 (sSeq t6 (sSeq t7 (sSeq t8 (sSeq t9 (sSeq t10 (sSeq t11 t12))))))))
theorem g_law_eq : g_law = (sSeq t1 (sSeq t2 (sSeq t3 (gHid 0 restG)))) := rfl
/-- all parts of ws, in order -/
def allS : List Str → List (List Str)
  | [] => [[]]
  | w :: ws => [] :: ((allS ws).map (w :: ·) ++ (allS ws).tail)
def bitsL (s : List Str) : Bt := ⟨has "gr" s, has "gw" s, has "own" s, has "rr" s, has "rw" s, has "ss" s, has "wr" s, has "ww" s⟩
def allD : D := .tup ((allS words8).map fun s => .tup (s.map D.str))
def whoD : D := .tup (((allS words8).filter fun s => same (nB (bitsL s)) (bitsL s)).map fun s => .tup (s.map D.str))
def topD : D := dD ⟨true, true, false, true, true, true, true, true⟩
def botD : D := dD ⟨false, false, true, false, false, false, false, false⟩
abbrev F4 (sc : D) (A B : Bt) (n : Option D) (m w a z : Option D) : DL.Env := [some sc, some (.ref 0), some (dD A), some (dD B), n, m, w, a, z, none]
theorem seq_nx {f g : G Fl} {ρ ρ' : DL.Env} {st s' : Sto} (h : f ρ st = .ok (.nx ρ') s') : sSeq f g ρ st = g ρ' s' := by
  unfold sSeq
  rw [h]
  rfl
theorem tor_f {f g : G Bool} {ρ : DL.Env} {st : Sto} {b : Bool} (h : f ρ st = .ok false st) (h2 : g ρ st = .ok b st) : gTOr f g ρ st = .ok b st := by
  unfold gTOr
  rw [h]
  exact h2
theorem if_f {t : G Bool} {f : G Fl} {ρ : DL.Env} {st : Sto} (h : t ρ st = .ok false st) : sIf t f sNext ρ st = .ok (.nx ρ) st := by
  unfold sIf
  rw [h]
  rfl
theorem c4 (sc : D) (A B : Bt) (st : Sto) : t4 (F4 sc A B none none none none none) st = .ok (.nx (F4 sc A B (some (dD (nB A))) none none none none)) st := by
  have e := lawN_at A st
  unfold F4
  generalize dD A = d at *
  generalize dD (nB A) = n at *
  simp [e]
theorem c5 (sc : D) (A B : Bt) (st : Sto) : t5 (F4 sc A B (some (dD (nB A))) none none none none) st = .ok (.nx (F4 sc A B (some (dD (nB A))) none none none none)) st := by
  unfold F4
  generalize dD B = x
  obtain ⟨a, b, c, d, e, g, i, j⟩ := A
  cases a <;> cases b <;> cases c <;> cases d <;> cases e <;> cases g <;> cases i <;> cases j <;> kernel_rfl
theorem dL_inj {A B : Bt} (h : dL A = dL B) : A = B := by
  have k : ∀ B, bitsL (dL B) = B := fun B => by
    have := allBt_at has_all B
    simp only [Bool.and_eq_true, beq_iff_eq] at this
    obtain ⟨⟨⟨⟨⟨⟨⟨h1, h2⟩, h3⟩, h4⟩, h5⟩, h6⟩, h7⟩, h8⟩ := this
    unfold bitsL
    rw [h1, h2, h3, h4, h5, h6, h7, h8]
  rw [← k A, ← k B, h]
theorem okd_at (A : Bt) : okD (dD A) = true := by rw [ok_tup, des_ok (dL_sub A)]
theorem eqd_at (A B : Bt) : eqD (dD A) (dD B) = same A B := by
  simp only [q_tup, qs_strs]
  by_cases h : A = B
  · rw [decide_eq_true (by rw [h]), same_iff.mpr h]
  · rw [decide_eq_false fun z => h (dL_inj z)]
    cases q : same A B with
    | false => rfl
    | true => exact absurd (same_iff.mp q) h
theorem bl_alike (b : Bool) (st : Sto) : m__law_alike 4 [.bl b, .bl b] st = .ok (.bl true) st := by cases b <;> kernel_rfl
theorem c6 (sc : D) (A B : Bt) (n : Option D) (st : Sto) : t6 (F4 sc A B n none none none none) st = .ok (.nx (F4 sc A B n none none none none)) st := by
  have e1 := alike_go (dL_sub A) (dL_sub B) st
  rw [bel_at, bel_at, meet_at] at e1
  have e2 := lawN_at A st
  have e3 := lawN_at B st
  have e4 := eqd_at (nB A) (nB B)
  have o1 := okd_at (nB A)
  have o2 := okd_at (nB B)
  have e5 := bl_alike (same (nB A) (nB B)) st
  unfold F4
  generalize same (nB A) (nB B) = s at *
  unfold dD at e2 e3 e4 o1 o2 ⊢
  generalize D.tup ((dL (nB A)).map D.str) = x2 at *
  generalize D.tup ((dL (nB B)).map D.str) = y2 at *
  generalize D.tup ((dL A).map D.str) = x at *
  generalize D.tup ((dL B).map D.str) = y at *
  simp [e1, e2, e3, e4, e5, o1, o2]
theorem c7 (sc : D) (A B : Bt) (n : Option D) (st : Sto) : t7 (F4 sc A B n none none none none) st = .ok (.nx (F4 sc A B n (some allD) none none none)) st := by
  unfold F4
  generalize dD A = x
  generalize dD B = y
  kernel_rfl
end K06

set_option Elab.async false
set_option linter.all false
set_option maxRecDepth 1000000
set_option maxHeartbeats 0
namespace K06
open PySem PySem.Spec L2 DL CM
open PyProof.Rows hiding St
abbrev F8 (sc : D) (x y : D) (n : Option D) (w a z : Option D) : DL.Env := [some sc, some (.ref 0), some x, some y, n, some allD, w, a, z, none]
theorem p1 (sc x y : D) (n : Option D) (st : Sto) : gBl (gOp mNe (gCB mLen (aCons (gVar 5) aNil)) (gC (.int 256))) (F8 sc x y n none none none) st = .ok false st := by kernel_rfl
theorem p2 (sc x y : D) (n : Option D) (st : Sto) : gBl (gOp mNe (gVar 5) (gCB mTuple (aCons (gCB mSortSetL (aCons (gVar 5) aNil)) aNil))) (F8 sc x y n none none none) st = .ok false st := by kernel_rfl
theorem p3 (sc y : D) (A : Bt) (n : Option D) (st : Sto) : gBl (gOp (mIn true) (gVar 2) (gVar 5)) (F8 sc (dD A) y n none none none) st = .ok false st := by
  obtain ⟨a, b, c, d, e, g, i, j⟩ := A
  cases a <;> cases b <;> cases c <;> cases d <;> cases e <;> cases g <;> cases i <;> cases j <;> kernel_rfl
theorem p4 (sc x : D) (B : Bt) (n : Option D) (st : Sto) : gBl (gOp mIsNot (gCall m_is_design (aCons (gVar 3) aNil)) (gC (.bl true))) (F8 sc x (dD B) n none none none) st = .ok false st := by
  obtain ⟨a, b, c, d, e, g, i, j⟩ := B
  cases a <;> cases b <;> cases c <;> cases d <;> cases e <;> cases g <;> cases i <;> cases j <;> kernel_rfl
end K06

set_option Elab.async false
set_option linter.all false
set_option maxRecDepth 1000000
set_option maxHeartbeats 0
namespace K06
open PySem PySem.Spec L2 DL CM
open PyProof.Rows hiding St
theorem p9 (sc x y : D) (n : Option D) (st : Sto) : t9 (F8 sc x y n none none none) st = .ok (.nx (F8 sc x y n (some whoD) none none)) st := by kernel_rfl
theorem p10 (sc x y : D) (n : Option D) (st : Sto) : gBl (gOp mNe (gVar 6) (gCB mTuple (aCons (gComp [9] (gSeq (gVar 5)) (.nm 9) (gBl (gOp mEq (gCall m__law_normal (aCons (gVar 9) aNil)) (gVar 9))) (gVar 9)) aNil))) (F8 sc x y n (some whoD) none none) st = .ok false st := by kernel_rfl
theorem p11 (sc x y : D) (n : Option D) (st : Sto) : t11 (F8 sc x y n (some whoD) none none) st = .ok (.nx (F8 sc x y n (some whoD) (some topD) (some botD))) st := by kernel_rfl
end K06

set_option Elab.async false
set_option linter.all false
set_option maxRecDepth 1000000
set_option maxHeartbeats 0
namespace K06
open PySem PySem.Spec L2 DL CM
open PyProof.Rows hiding St
theorem q10 (sc y : D) (A : Bt) (st : Sto) : gBl (gOp mNe (gOp (mIn false) (gVar 2) (gVar 6)) (gOp mEq (gVar 4) (gVar 2))) (F8 sc (dD A) y (some (dD (nB A))) (some whoD) none none) st = .ok false st := by
  obtain ⟨a, b, c, d, e, g, i, j⟩ := A
  cases a <;> cases b <;> cases c <;> cases d <;> cases e <;> cases g <;> cases i <;> cases j <;> kernel_rfl
theorem q12 (sc y : D) (A : Bt) (st : Sto) : t12 (F8 sc (dD A) y (some (dD (nB A))) (some whoD) (some topD) (some botD)) st = .ok (.rt (.bl true)) st := by
  obtain ⟨a, b, c, d, e, g, i, j⟩ := A
  cases a <;> cases b <;> cases c <;> cases d <;> cases e <;> cases g <;> cases i <;> cases j <;> kernel_rfl
end K06

set_option Elab.async false
set_option linter.all false
set_option maxRecDepth 100000
set_option maxHeartbeats 0
namespace K06
open PySem PySem.Spec L2 DL CM
open PyProof.Rows hiding St
theorem c8 (sc : D) (A B : Bt) (n : Option D) (st : Sto) : t8 (F8 sc (dD A) (dD B) n none none none) st = .ok (.nx (F8 sc (dD A) (dD B) n none none none)) st :=
  if_f (tor_f (p1 sc (dD A) (dD B) n st) (tor_f (p2 sc (dD A) (dD B) n st) (tor_f (p3 sc (dD B) A n st) (p4 sc (dD A) B n st))))
theorem c10 (sc : D) (A B : Bt) (st : Sto) : t10 (F8 sc (dD A) (dD B) (some (dD (nB A))) (some whoD) none none) st = .ok (.nx (F8 sc (dD A) (dD B) (some (dD (nB A))) (some whoD) none none)) st :=
  if_f (tor_f (p10 sc (dD A) (dD B) (some (dD (nB A))) st) (q10 sc (dD B) A st))
theorem rest_go (sc : D) (A B : Bt) (st : Sto) : restG (F4 sc A B none none none none none) st = .ok (.rt (.bl true)) st := by
  unfold restG
  rw [seq_nx (c4 sc A B st), seq_nx (c5 sc A B st), seq_nx (c6 sc A B (some (dD (nB A))) st), seq_nx (c7 sc A B (some (dD (nB A))) st)]
  show sSeq t8 _ (F8 sc (dD A) (dD B) (some (dD (nB A))) none none none) st = _
  rw [seq_nx (c8 sc A B (some (dD (nB A))) st), seq_nx (p9 sc (dD A) (dD B) (some (dD (nB A))) st), seq_nx (c10 sc A B st), seq_nx (p11 sc (dD A) (dD B) (some (dD (nB A))) st), q12 sc (dD B) A st]
theorem law_go (ns : List Int) (sc : D) (hq : sc = .ro (ns.map D.int) ∨ sc = .lst (ns.map D.int)) : ∃ st, m_law [sc] [] = .ok (.bl true) st := by
  have hS := scr_of hq
  have hr0 : HasRow 0 sc [rowS sc 0 14246 0] := ⟨0, 14246, 0, rfl, by decide⟩
  obtain ⟨one, s1, e1, h1, r1, hr1⟩ := design_go hS hr0
  obtain ⟨other, s2, e2, h2, r2, hr2⟩ := near_go hS h1 hr1
  obtain ⟨A, rfl⟩ := sub_bits h1
  obtain ⟨B, rfl⟩ := sub_bits h2
  obtain ⟨a, b, c, hst, _⟩ := Row.trans hS r1 r2
  have hst' : s2 = [rowS sc a b c] := hst
  have f1 : t1 [some sc, none, none, none, none, none, none, none, none, none] [] = .ok (.nx [some sc, some (.ref 0), none, none, none, none, none, none, none, none]) [rowS sc 0 14246 0] := rfl
  have f2 : t2 [some sc, some (.ref 0), none, none, none, none, none, none, none, none] [rowS sc 0 14246 0] = .ok (.nx [some sc, some (.ref 0), some (dD A), none, none, none, none, none, none, none]) s1 := by
    unfold dD
    generalize D.tup ((dL A).map D.str) = x at *
    simp [e1]
  have f3 : t3 [some sc, some (.ref 0), some (dD A), none, none, none, none, none, none, none] s1 = .ok (.nx (F4 sc A B none none none none none)) s2 := by
    unfold F4 dD
    generalize D.tup ((dL A).map D.str) = x at *
    generalize D.tup ((dL B).map D.str) = y at *
    simp [e2]
  have h0 : [rowS sc a b c][0]? = some (.lst (sc :: [.int a, .int b, .int c])) := rfl
  obtain ⟨st, h⟩ := hid_at (g := restG) (ρ := F4 sc A B none none none none none) (s2 := [rowS sc a b c]) (r' := [.int a, .int b, .int c]) (d := .bl true) h0 (by show 0 < 1; decide) fun v => rest_go sc A B _
  refine ⟨st, ?_⟩
  show (g_law [some sc, none, none, none, none, none, none, none, none, none] []).bind endD = _
  rw [g_law_eq, seq_nx f1, seq_nx f2, seq_nx f3, hst', h]
  rfl
end K06

set_option Elab.async false
set_option linter.all false
set_option maxRecDepth 100000
set_option maxHeartbeats 2000000
namespace K06
open PySem PySem.Spec L2 DL
open PyProof.Rows hiding St
theorem all_mk {w : World} {K : PySem.W.Frag} {h : Heap} {mg : Str → Option Value} {fa : Addr} (X : K.In h) (G : h.Ns mainGlobals mg) (hfa : mg "law" = some (.ref fa))
    {f__law_alike : Addr} {od__law_alike an__law_alike : Option Addr} {sl__law_alike : Array (Option Value)} {oc__law_alike kV__law_alike dc__law_alike pm__law_alike cd__law_alike ct__law_alike : Value}
    (a__law_alike : PySem.W.nsIn K mainGlobals "_law_alike" = some (some (.ref f__law_alike)))
    (l__law_alike : K.lookup f__law_alike = some ⟨oc__law_alike, od__law_alike, .func (PySem.W.fnOf "_law_alike" "_law_alike" (defArgs s__law_alike) (defBody s__law_alike) (defScope s__law_alike) .none kV__law_alike dc__law_alike pm__law_alike an__law_alike cd__law_alike ct__law_alike), sl__law_alike⟩) (w__law_alike : PySem.W.codeIn K cd__law_alike "_law_alike" = true) (k__law_alike : PySem.W.keepIn K (.ref f__law_alike) = true)
    {f__law_taken : Addr} {od__law_taken an__law_taken : Option Addr} {sl__law_taken : Array (Option Value)} {oc__law_taken kV__law_taken dc__law_taken pm__law_taken cd__law_taken ct__law_taken : Value}
    (a__law_taken : PySem.W.nsIn K mainGlobals "_law_taken" = some (some (.ref f__law_taken)))
    (l__law_taken : K.lookup f__law_taken = some ⟨oc__law_taken, od__law_taken, .func (PySem.W.fnOf "_law_taken" "_law_taken" (defArgs s__law_taken) (defBody s__law_taken) (defScope s__law_taken) .none kV__law_taken dc__law_taken pm__law_taken an__law_taken cd__law_taken ct__law_taken), sl__law_taken⟩) (w__law_taken : PySem.W.codeIn K cd__law_taken "_law_taken" = true) (k__law_taken : PySem.W.keepIn K (.ref f__law_taken) = true)
    {f__law_design : Addr} {od__law_design an__law_design : Option Addr} {sl__law_design : Array (Option Value)} {oc__law_design kV__law_design dc__law_design pm__law_design cd__law_design ct__law_design : Value}
    (a__law_design : PySem.W.nsIn K mainGlobals "_law_design" = some (some (.ref f__law_design)))
    (l__law_design : K.lookup f__law_design = some ⟨oc__law_design, od__law_design, .func (PySem.W.fnOf "_law_design" "_law_design" (defArgs s__law_design) (defBody s__law_design) (defScope s__law_design) .none kV__law_design dc__law_design pm__law_design an__law_design cd__law_design ct__law_design), sl__law_design⟩) (w__law_design : PySem.W.codeIn K cd__law_design "_law_design" = true) (k__law_design : PySem.W.keepIn K (.ref f__law_design) = true)
    {f__law_pick : Addr} {od__law_pick an__law_pick : Option Addr} {sl__law_pick : Array (Option Value)} {oc__law_pick kV__law_pick dc__law_pick pm__law_pick cd__law_pick ct__law_pick : Value}
    (a__law_pick : PySem.W.nsIn K mainGlobals "_law_pick" = some (some (.ref f__law_pick)))
    (l__law_pick : K.lookup f__law_pick = some ⟨oc__law_pick, od__law_pick, .func (PySem.W.fnOf "_law_pick" "_law_pick" (defArgs s__law_pick) (defBody s__law_pick) (defScope s__law_pick) .none kV__law_pick dc__law_pick pm__law_pick an__law_pick cd__law_pick ct__law_pick), sl__law_pick⟩) (w__law_pick : PySem.W.codeIn K cd__law_pick "_law_pick" = true) (k__law_pick : PySem.W.keepIn K (.ref f__law_pick) = true)
    {f__law_near : Addr} {od__law_near an__law_near : Option Addr} {sl__law_near : Array (Option Value)} {oc__law_near kV__law_near dc__law_near pm__law_near cd__law_near ct__law_near : Value}
    (a__law_near : PySem.W.nsIn K mainGlobals "_law_near" = some (some (.ref f__law_near)))
    (l__law_near : K.lookup f__law_near = some ⟨oc__law_near, od__law_near, .func (PySem.W.fnOf "_law_near" "_law_near" (defArgs s__law_near) (defBody s__law_near) (defScope s__law_near) .none kV__law_near dc__law_near pm__law_near an__law_near cd__law_near ct__law_near), sl__law_near⟩) (w__law_near : PySem.W.codeIn K cd__law_near "_law_near" = true) (k__law_near : PySem.W.keepIn K (.ref f__law_near) = true)
    {f__law_normal : Addr} {od__law_normal an__law_normal : Option Addr} {sl__law_normal : Array (Option Value)} {oc__law_normal kV__law_normal dc__law_normal pm__law_normal cd__law_normal ct__law_normal : Value}
    (a__law_normal : PySem.W.nsIn K mainGlobals "_law_normal" = some (some (.ref f__law_normal)))
    (l__law_normal : K.lookup f__law_normal = some ⟨oc__law_normal, od__law_normal, .func (PySem.W.fnOf "_law_normal" "_law_normal" (defArgs s__law_normal) (defBody s__law_normal) (defScope s__law_normal) .none kV__law_normal dc__law_normal pm__law_normal an__law_normal cd__law_normal ct__law_normal), sl__law_normal⟩) (w__law_normal : PySem.W.codeIn K cd__law_normal "_law_normal" = true) (k__law_normal : PySem.W.keepIn K (.ref f__law_normal) = true)
    {f_is_design : Addr} {od_is_design an_is_design : Option Addr} {sl_is_design : Array (Option Value)} {oc_is_design kV_is_design dc_is_design pm_is_design cd_is_design ct_is_design : Value}
    (a_is_design : PySem.W.nsIn K mainGlobals "is_design" = some (some (.ref f_is_design)))
    (l_is_design : K.lookup f_is_design = some ⟨oc_is_design, od_is_design, .func (PySem.W.fnOf "is_design" "is_design" (defArgs s_is_design) (defBody s_is_design) (defScope s_is_design) .none kV_is_design dc_is_design pm_is_design an_is_design cd_is_design ct_is_design), sl_is_design⟩) (w_is_design : PySem.W.codeIn K cd_is_design "is_design" = true) (k_is_design : PySem.W.keepIn K (.ref f_is_design) = true)
    {f_check_design : Addr} {od_check_design an_check_design : Option Addr} {sl_check_design : Array (Option Value)} {oc_check_design kV_check_design dc_check_design pm_check_design cd_check_design ct_check_design : Value}
    (a_check_design : PySem.W.nsIn K mainGlobals "check_design" = some (some (.ref f_check_design)))
    (l_check_design : K.lookup f_check_design = some ⟨oc_check_design, od_check_design, .func (PySem.W.fnOf "check_design" "check_design" (defArgs s_check_design) (defBody s_check_design) (defScope s_check_design) .none kV_check_design dc_check_design pm_check_design an_check_design cd_check_design ct_check_design), sl_check_design⟩) (w_check_design : PySem.W.codeIn K cd_check_design "check_design" = true) (k_check_design : PySem.W.keepIn K (.ref f_check_design) = true)
    {f_hides_own : Addr} {od_hides_own an_hides_own : Option Addr} {sl_hides_own : Array (Option Value)} {oc_hides_own kV_hides_own dc_hides_own pm_hides_own cd_hides_own ct_hides_own : Value}
    (a_hides_own : PySem.W.nsIn K mainGlobals "hides_own" = some (some (.ref f_hides_own)))
    (l_hides_own : K.lookup f_hides_own = some ⟨oc_hides_own, od_hides_own, .func (PySem.W.fnOf "hides_own" "hides_own" (defArgs s_hides_own) (defBody s_hides_own) (defScope s_hides_own) .none kV_hides_own dc_hides_own pm_hides_own an_hides_own cd_hides_own ct_hides_own), sl_hides_own⟩) (w_hides_own : PySem.W.codeIn K cd_hides_own "hides_own" = true) (k_hides_own : PySem.W.keepIn K (.ref f_hides_own) = true)
    {f_keeps_guarded_readings : Addr} {od_keeps_guarded_readings an_keeps_guarded_readings : Option Addr} {sl_keeps_guarded_readings : Array (Option Value)} {oc_keeps_guarded_readings kV_keeps_guarded_readings dc_keeps_guarded_readings pm_keeps_guarded_readings cd_keeps_guarded_readings ct_keeps_guarded_readings : Value}
    (a_keeps_guarded_readings : PySem.W.nsIn K mainGlobals "keeps_guarded_readings" = some (some (.ref f_keeps_guarded_readings)))
    (l_keeps_guarded_readings : K.lookup f_keeps_guarded_readings = some ⟨oc_keeps_guarded_readings, od_keeps_guarded_readings, .func (PySem.W.fnOf "keeps_guarded_readings" "keeps_guarded_readings" (defArgs s_keeps_guarded_readings) (defBody s_keeps_guarded_readings) (defScope s_keeps_guarded_readings) .none kV_keeps_guarded_readings dc_keeps_guarded_readings pm_keeps_guarded_readings an_keeps_guarded_readings cd_keeps_guarded_readings ct_keeps_guarded_readings), sl_keeps_guarded_readings⟩) (w_keeps_guarded_readings : PySem.W.codeIn K cd_keeps_guarded_readings "keeps_guarded_readings" = true) (k_keeps_guarded_readings : PySem.W.keepIn K (.ref f_keeps_guarded_readings) = true)
    {f_keeps_guarded_writings : Addr} {od_keeps_guarded_writings an_keeps_guarded_writings : Option Addr} {sl_keeps_guarded_writings : Array (Option Value)} {oc_keeps_guarded_writings kV_keeps_guarded_writings dc_keeps_guarded_writings pm_keeps_guarded_writings cd_keeps_guarded_writings ct_keeps_guarded_writings : Value}
    (a_keeps_guarded_writings : PySem.W.nsIn K mainGlobals "keeps_guarded_writings" = some (some (.ref f_keeps_guarded_writings)))
    (l_keeps_guarded_writings : K.lookup f_keeps_guarded_writings = some ⟨oc_keeps_guarded_writings, od_keeps_guarded_writings, .func (PySem.W.fnOf "keeps_guarded_writings" "keeps_guarded_writings" (defArgs s_keeps_guarded_writings) (defBody s_keeps_guarded_writings) (defScope s_keeps_guarded_writings) .none kV_keeps_guarded_writings dc_keeps_guarded_writings pm_keeps_guarded_writings an_keeps_guarded_writings cd_keeps_guarded_writings ct_keeps_guarded_writings), sl_keeps_guarded_writings⟩) (w_keeps_guarded_writings : PySem.W.codeIn K cd_keeps_guarded_writings "keeps_guarded_writings" = true) (k_keeps_guarded_writings : PySem.W.keepIn K (.ref f_keeps_guarded_writings) = true)
    {f_is_below : Addr} {od_is_below an_is_below : Option Addr} {sl_is_below : Array (Option Value)} {oc_is_below kV_is_below dc_is_below pm_is_below cd_is_below ct_is_below : Value}
    (a_is_below : PySem.W.nsIn K mainGlobals "is_below" = some (some (.ref f_is_below)))
    (l_is_below : K.lookup f_is_below = some ⟨oc_is_below, od_is_below, .func (PySem.W.fnOf "is_below" "is_below" (defArgs s_is_below) (defBody s_is_below) (defScope s_is_below) .none kV_is_below dc_is_below pm_is_below an_is_below cd_is_below ct_is_below), sl_is_below⟩) (w_is_below : PySem.W.codeIn K cd_is_below "is_below" = true) (k_is_below : PySem.W.keepIn K (.ref f_is_below) = true)
    {f_alike : Addr} {od_alike an_alike : Option Addr} {sl_alike : Array (Option Value)} {oc_alike kV_alike dc_alike pm_alike cd_alike ct_alike : Value}
    (a_alike : PySem.W.nsIn K mainGlobals "alike" = some (some (.ref f_alike)))
    (l_alike : K.lookup f_alike = some ⟨oc_alike, od_alike, .func (PySem.W.fnOf "alike" "alike" (defArgs s_alike) (defBody s_alike) (defScope s_alike) .none kV_alike dc_alike pm_alike an_alike cd_alike ct_alike), sl_alike⟩) (w_alike : PySem.W.codeIn K cd_alike "alike" = true) (k_alike : PySem.W.keepIn K (.ref f_alike) = true)
    {f_all_designs : Addr} {od_all_designs an_all_designs : Option Addr} {sl_all_designs : Array (Option Value)} {oc_all_designs kV_all_designs dc_all_designs pm_all_designs cd_all_designs ct_all_designs : Value}
    (a_all_designs : PySem.W.nsIn K mainGlobals "all_designs" = some (some (.ref f_all_designs)))
    (l_all_designs : K.lookup f_all_designs = some ⟨oc_all_designs, od_all_designs, .func (PySem.W.fnOf "all_designs" "all_designs" (defArgs s_all_designs) (defBody s_all_designs) (defScope s_all_designs) .none kV_all_designs dc_all_designs pm_all_designs an_all_designs cd_all_designs ct_all_designs), sl_all_designs⟩) (w_all_designs : PySem.W.codeIn K cd_all_designs "all_designs" = true) (k_all_designs : PySem.W.keepIn K (.ref f_all_designs) = true)
    {f_below : Addr} {od_below an_below : Option Addr} {sl_below : Array (Option Value)} {oc_below kV_below dc_below pm_below cd_below ct_below : Value}
    (a_below : PySem.W.nsIn K mainGlobals "below" = some (some (.ref f_below)))
    (l_below : K.lookup f_below = some ⟨oc_below, od_below, .func (PySem.W.fnOf "below" "below" (defArgs s_below) (defBody s_below) (defScope s_below) .none kV_below dc_below pm_below an_below cd_below ct_below), sl_below⟩) (w_below : PySem.W.codeIn K cd_below "below" = true) (k_below : PySem.W.keepIn K (.ref f_below) = true)
    {f_is_held_by_normal : Addr} {od_is_held_by_normal an_is_held_by_normal : Option Addr} {sl_is_held_by_normal : Array (Option Value)} {oc_is_held_by_normal kV_is_held_by_normal dc_is_held_by_normal pm_is_held_by_normal cd_is_held_by_normal ct_is_held_by_normal : Value}
    (a_is_held_by_normal : PySem.W.nsIn K mainGlobals "is_held_by_normal" = some (some (.ref f_is_held_by_normal)))
    (l_is_held_by_normal : K.lookup f_is_held_by_normal = some ⟨oc_is_held_by_normal, od_is_held_by_normal, .func (PySem.W.fnOf "is_held_by_normal" "is_held_by_normal" (defArgs s_is_held_by_normal) (defBody s_is_held_by_normal) (defScope s_is_held_by_normal) .none kV_is_held_by_normal dc_is_held_by_normal pm_is_held_by_normal an_is_held_by_normal cd_is_held_by_normal ct_is_held_by_normal), sl_is_held_by_normal⟩) (w_is_held_by_normal : PySem.W.codeIn K cd_is_held_by_normal "is_held_by_normal" = true) (k_is_held_by_normal : PySem.W.keepIn K (.ref f_is_held_by_normal) = true)
    {f_normal_of : Addr} {od_normal_of an_normal_of : Option Addr} {sl_normal_of : Array (Option Value)} {oc_normal_of kV_normal_of dc_normal_of pm_normal_of cd_normal_of ct_normal_of : Value}
    (a_normal_of : PySem.W.nsIn K mainGlobals "normal_of" = some (some (.ref f_normal_of)))
    (l_normal_of : K.lookup f_normal_of = some ⟨oc_normal_of, od_normal_of, .func (PySem.W.fnOf "normal_of" "normal_of" (defArgs s_normal_of) (defBody s_normal_of) (defScope s_normal_of) .none kV_normal_of dc_normal_of pm_normal_of an_normal_of cd_normal_of ct_normal_of), sl_normal_of⟩) (w_normal_of : PySem.W.codeIn K cd_normal_of "normal_of" = true) (k_normal_of : PySem.W.keepIn K (.ref f_normal_of) = true)
    {f_normal : Addr} {od_normal an_normal : Option Addr} {sl_normal : Array (Option Value)} {oc_normal kV_normal dc_normal pm_normal cd_normal ct_normal : Value}
    (a_normal : PySem.W.nsIn K mainGlobals "normal" = some (some (.ref f_normal)))
    (l_normal : K.lookup f_normal = some ⟨oc_normal, od_normal, .func (PySem.W.fnOf "normal" "normal" (defArgs s_normal) (defBody s_normal) (defScope s_normal) .none kV_normal dc_normal pm_normal an_normal cd_normal ct_normal), sl_normal⟩) (w_normal : PySem.W.codeIn K cd_normal "normal" = true) (k_normal : PySem.W.keepIn K (.ref f_normal) = true)
    {f_normals : Addr} {od_normals an_normals : Option Addr} {sl_normals : Array (Option Value)} {oc_normals kV_normals dc_normals pm_normals cd_normals ct_normals : Value}
    (a_normals : PySem.W.nsIn K mainGlobals "normals" = some (some (.ref f_normals)))
    (l_normals : K.lookup f_normals = some ⟨oc_normals, od_normals, .func (PySem.W.fnOf "normals" "normals" (defArgs s_normals) (defBody s_normals) (defScope s_normals) .none kV_normals dc_normals pm_normals an_normals cd_normals ct_normals), sl_normals⟩) (w_normals : PySem.W.codeIn K cd_normals "normals" = true) (k_normals : PySem.W.keepIn K (.ref f_normals) = true)
    {f_law : Addr} {od_law an_law : Option Addr} {sl_law : Array (Option Value)} {oc_law kV_law dc_law pm_law cd_law ct_law : Value}
    (a_law : PySem.W.nsIn K mainGlobals "law" = some (some (.ref f_law)))
    (l_law : K.lookup f_law = some ⟨oc_law, od_law, .func (PySem.W.fnOf "law" "law" (defArgs s_law) (defBody s_law) (defScope s_law) .none kV_law dc_law pm_law an_law cd_law ct_law), sl_law⟩) (w_law : PySem.W.codeIn K cd_law "law" = true) (k_law : PySem.W.keepIn K (.ref f_law) = true)
    (z_any : PySem.W.nsIn K mainGlobals "any" = some none)
    (z_bool : PySem.W.nsIn K mainGlobals "bool" = some none)
    (z_int : PySem.W.nsIn K mainGlobals "int" = some none)
    (z_isinstance : PySem.W.nsIn K mainGlobals "isinstance" = some none)
    (z_len : PySem.W.nsIn K mainGlobals "len" = some none)
    (z_list : PySem.W.nsIn K mainGlobals "list" = some none)
    (z_range : PySem.W.nsIn K mainGlobals "range" = some none)
    (z_set : PySem.W.nsIn K mainGlobals "set" = some none)
    (z_sorted : PySem.W.nsIn K mainGlobals "sorted" = some none)
    (z_str : PySem.W.nsIn K mainGlobals "str" = some none)
    (z_tuple : PySem.W.nsIn K mainGlobals "tuple" = some none)
    {f_WORDS : Addr} (a_WORDS : PySem.W.nsIn K mainGlobals "WORDS" = some (some (.ref f_WORDS))) (r_WORDS : ∀ (Z : Zx) β H, Z.K = K → Rep Z β H (.ref f_WORDS) c_WORDS)
    {f_KEEPING : Addr} (a_KEEPING : PySem.W.nsIn K mainGlobals "KEEPING" = some (some (.ref f_KEEPING))) (r_KEEPING : ∀ (Z : Zx) β H, Z.K = K → Rep Z β H (.ref f_KEEPING) c_KEEPING) :
    ∃ fd : FuncData, (∀ (s : Shared) (v : Value), BindsTo s fd ⟨[v], []⟩ [("script", v)]) ∧ ∀ base : Heap, K.In base → base.Ns mainGlobals mg → FnOk PySem.Challenge.rw_pairskept_k06_whole_normals.prog w K mg base (L2.CX PySem.Challenge.rw_pairskept_k06_whole_normals.prog w) 6 fa fd ["script"] (spL PySem.Challenge.rw_pairskept_k06_whole_normals.prog K w m_law) := by
  have e : f_law = fa := by
    have e := hfa.symm.trans (PySem.W.mg_of X G a_law)
    cases e
    rfl
  subst e
  let T : Txt K w mg := {
    a__law_alike := f__law_alike, d__law_alike := _, F__law_alike := fun_mk (st := s__law_alike) l__law_alike w__law_alike k__law_alike, b__law_alike := (fun_mk (st := s__law_alike) l__law_alike w__law_alike k__law_alike).binds (ps := ["found", "due"]) fun _ _ _ _ _ _ us hl => match us, hl with | [_, _], _ => rfl, g__law_alike := PySem.W.mg_of X G a__law_alike,
    a__law_taken := f__law_taken, d__law_taken := _, F__law_taken := fun_mk (st := s__law_taken) l__law_taken w__law_taken k__law_taken, b__law_taken := (fun_mk (st := s__law_taken) l__law_taken w__law_taken k__law_taken).binds (ps := ["row", "many"]) fun _ _ _ _ _ _ us hl => match us, hl with | [_, _], _ => rfl, g__law_taken := PySem.W.mg_of X G a__law_taken,
    a__law_design := f__law_design, d__law_design := _, F__law_design := fun_mk (st := s__law_design) l__law_design w__law_design k__law_design, b__law_design := (fun_mk (st := s__law_design) l__law_design w__law_design k__law_design).binds (ps := ["row"]) fun _ _ _ _ _ _ us hl => match us, hl with | [_], _ => rfl, g__law_design := PySem.W.mg_of X G a__law_design,
    a__law_pick := f__law_pick, d__law_pick := _, F__law_pick := fun_mk (st := s__law_pick) l__law_pick w__law_pick k__law_pick, b__law_pick := (fun_mk (st := s__law_pick) l__law_pick w__law_pick k__law_pick).binds (ps := ["row", "kinds"]) fun _ _ _ _ _ _ us hl => match us, hl with | [_, _], _ => rfl, g__law_pick := PySem.W.mg_of X G a__law_pick,
    a__law_near := f__law_near, d__law_near := _, F__law_near := fun_mk (st := s__law_near) l__law_near w__law_near k__law_near, b__law_near := (fun_mk (st := s__law_near) l__law_near w__law_near k__law_near).binds (ps := ["row", "design"]) fun _ _ _ _ _ _ us hl => match us, hl with | [_, _], _ => rfl, g__law_near := PySem.W.mg_of X G a__law_near,
    a__law_normal := f__law_normal, d__law_normal := _, F__law_normal := fun_mk (st := s__law_normal) l__law_normal w__law_normal k__law_normal, b__law_normal := (fun_mk (st := s__law_normal) l__law_normal w__law_normal k__law_normal).binds (ps := ["design"]) fun _ _ _ _ _ _ us hl => match us, hl with | [_], _ => rfl, g__law_normal := PySem.W.mg_of X G a__law_normal,
    a_is_design := f_is_design, d_is_design := _, F_is_design := fun_mk (st := s_is_design) l_is_design w_is_design k_is_design, b_is_design := (fun_mk (st := s_is_design) l_is_design w_is_design k_is_design).binds (ps := ["value"]) fun _ _ _ _ _ _ us hl => match us, hl with | [_], _ => rfl, g_is_design := PySem.W.mg_of X G a_is_design,
    a_check_design := f_check_design, d_check_design := _, F_check_design := fun_mk (st := s_check_design) l_check_design w_check_design k_check_design, b_check_design := (fun_mk (st := s_check_design) l_check_design w_check_design k_check_design).binds (ps := ["value"]) fun _ _ _ _ _ _ us hl => match us, hl with | [_], _ => rfl, g_check_design := PySem.W.mg_of X G a_check_design,
    a_hides_own := f_hides_own, d_hides_own := _, F_hides_own := fun_mk (st := s_hides_own) l_hides_own w_hides_own k_hides_own, b_hides_own := (fun_mk (st := s_hides_own) l_hides_own w_hides_own k_hides_own).binds (ps := ["one", "other"]) fun _ _ _ _ _ _ us hl => match us, hl with | [_, _], _ => rfl, g_hides_own := PySem.W.mg_of X G a_hides_own,
    a_keeps_guarded_readings := f_keeps_guarded_readings, d_keeps_guarded_readings := _, F_keeps_guarded_readings := fun_mk (st := s_keeps_guarded_readings) l_keeps_guarded_readings w_keeps_guarded_readings k_keeps_guarded_readings, b_keeps_guarded_readings := (fun_mk (st := s_keeps_guarded_readings) l_keeps_guarded_readings w_keeps_guarded_readings k_keeps_guarded_readings).binds (ps := ["design"]) fun _ _ _ _ _ _ us hl => match us, hl with | [_], _ => rfl, g_keeps_guarded_readings := PySem.W.mg_of X G a_keeps_guarded_readings,
    a_keeps_guarded_writings := f_keeps_guarded_writings, d_keeps_guarded_writings := _, F_keeps_guarded_writings := fun_mk (st := s_keeps_guarded_writings) l_keeps_guarded_writings w_keeps_guarded_writings k_keeps_guarded_writings, b_keeps_guarded_writings := (fun_mk (st := s_keeps_guarded_writings) l_keeps_guarded_writings w_keeps_guarded_writings k_keeps_guarded_writings).binds (ps := ["design"]) fun _ _ _ _ _ _ us hl => match us, hl with | [_], _ => rfl, g_keeps_guarded_writings := PySem.W.mg_of X G a_keeps_guarded_writings,
    a_is_below := f_is_below, d_is_below := _, F_is_below := fun_mk (st := s_is_below) l_is_below w_is_below k_is_below, b_is_below := (fun_mk (st := s_is_below) l_is_below w_is_below k_is_below).binds (ps := ["one", "other"]) fun _ _ _ _ _ _ us hl => match us, hl with | [_, _], _ => rfl, g_is_below := PySem.W.mg_of X G a_is_below,
    a_alike := f_alike, d_alike := _, F_alike := fun_mk (st := s_alike) l_alike w_alike k_alike, b_alike := (fun_mk (st := s_alike) l_alike w_alike k_alike).binds (ps := ["one", "other"]) fun _ _ _ _ _ _ us hl => match us, hl with | [_, _], _ => rfl, g_alike := PySem.W.mg_of X G a_alike,
    a_all_designs := f_all_designs, d_all_designs := _, F_all_designs := fun_mk (st := s_all_designs) l_all_designs w_all_designs k_all_designs, b_all_designs := (fun_mk (st := s_all_designs) l_all_designs w_all_designs k_all_designs).binds (ps := []) fun _ _ _ _ _ _ us hl => match us, hl with | [], _ => rfl, g_all_designs := PySem.W.mg_of X G a_all_designs,
    a_below := f_below, d_below := _, F_below := fun_mk (st := s_below) l_below w_below k_below, b_below := (fun_mk (st := s_below) l_below w_below k_below).binds (ps := ["one", "other"]) fun _ _ _ _ _ _ us hl => match us, hl with | [_, _], _ => rfl, g_below := PySem.W.mg_of X G a_below,
    a_is_held_by_normal := f_is_held_by_normal, d_is_held_by_normal := _, F_is_held_by_normal := fun_mk (st := s_is_held_by_normal) l_is_held_by_normal w_is_held_by_normal k_is_held_by_normal, b_is_held_by_normal := (fun_mk (st := s_is_held_by_normal) l_is_held_by_normal w_is_held_by_normal k_is_held_by_normal).binds (ps := ["design", "word"]) fun _ _ _ _ _ _ us hl => match us, hl with | [_, _], _ => rfl, g_is_held_by_normal := PySem.W.mg_of X G a_is_held_by_normal,
    a_normal_of := f_normal_of, d_normal_of := _, F_normal_of := fun_mk (st := s_normal_of) l_normal_of w_normal_of k_normal_of, b_normal_of := (fun_mk (st := s_normal_of) l_normal_of w_normal_of k_normal_of).binds (ps := ["design"]) fun _ _ _ _ _ _ us hl => match us, hl with | [_], _ => rfl, g_normal_of := PySem.W.mg_of X G a_normal_of,
    a_normal := f_normal, d_normal := _, F_normal := fun_mk (st := s_normal) l_normal w_normal k_normal, b_normal := (fun_mk (st := s_normal) l_normal w_normal k_normal).binds (ps := ["design"]) fun _ _ _ _ _ _ us hl => match us, hl with | [_], _ => rfl, g_normal := PySem.W.mg_of X G a_normal,
    a_normals := f_normals, d_normals := _, F_normals := fun_mk (st := s_normals) l_normals w_normals k_normals, b_normals := (fun_mk (st := s_normals) l_normals w_normals k_normals).binds (ps := []) fun _ _ _ _ _ _ us hl => match us, hl with | [], _ => rfl, g_normals := PySem.W.mg_of X G a_normals,
    a_law := f_law, d_law := _, F_law := fun_mk (st := s_law) l_law w_law k_law, b_law := (fun_mk (st := s_law) l_law w_law k_law).binds (ps := ["script"]) fun _ _ _ _ _ _ us hl => match us, hl with | [_], _ => rfl, g_law := PySem.W.mg_of X G a_law,
    n_any := PySem.W.mg_none_of X G z_any,
    n_bool := PySem.W.mg_none_of X G z_bool,
    n_int := PySem.W.mg_none_of X G z_int,
    n_isinstance := PySem.W.mg_none_of X G z_isinstance,
    n_len := PySem.W.mg_none_of X G z_len,
    n_list := PySem.W.mg_none_of X G z_list,
    n_range := PySem.W.mg_none_of X G z_range,
    n_set := PySem.W.mg_none_of X G z_set,
    n_sorted := PySem.W.mg_none_of X G z_sorted,
    n_str := PySem.W.mg_none_of X G z_str,
    n_tuple := PySem.W.mg_none_of X G z_tuple,
    a_WORDS := f_WORDS, c_WORDS := ⟨PySem.W.mg_of X G a_WORDS, r_WORDS⟩,
    a_KEEPING := f_KEEPING, c_KEEPING := ⟨PySem.W.mg_of X G a_KEEPING, r_KEEPING⟩ }
  exact ⟨T.d_law, fun s v => .of_eq rfl, fun base _ _ => FnD.law (ok_law (base := base) T)⟩
end K06
open PySem PySem.W PyProof.Rows
set_option maxHeartbeats 0 in
theorem PySem.Challenge.cw_pairskept_k06_whole_normals_holds : PySem.Challenge.rw_pairskept_k06_whole_normals.Holds := by
  w_on; o_law; k_head; (case hw => w_witness2)
  k_fill
  refine L2.walk_of (l := PySem.Challenge.rw_pairskept_k06_whole_normals) (n := 63) (k := 6) (x := "script") (CX := fun w => L2.CX PySem.Challenge.rw_pairskept_k06_whole_normals.prog w) (sp := fun w => DL.spL PySem.Challenge.rw_pairskept_k06_whole_normals.prog _ w K06.m_law) rfl (by decide) rfl ⟨rfl, by decide, by decide⟩ (fun w h Y => PySem.W.kIn_of Y) ?F (fun w H a ns hl O hS => DL.spL_of (fun ns => K06.law_go ns _ (.inl rfl)) hl O hS) (fun w H s e s' h => DL.cx_no h)
  case F =>
    intro w mg fa h KX G hmg
    refine' K06.all_mk KX G hmg ?a__law_alike ?l__law_alike ?w__law_alike ?k__law_alike ?a__law_taken ?l__law_taken ?w__law_taken ?k__law_taken ?a__law_design ?l__law_design ?w__law_design ?k__law_design ?a__law_pick ?l__law_pick ?w__law_pick ?k__law_pick ?a__law_near ?l__law_near ?w__law_near ?k__law_near ?a__law_normal ?l__law_normal ?w__law_normal ?k__law_normal ?a_is_design ?l_is_design ?w_is_design ?k_is_design ?a_check_design ?l_check_design ?w_check_design ?k_check_design ?a_hides_own ?l_hides_own ?w_hides_own ?k_hides_own ?a_keeps_guarded_readings ?l_keeps_guarded_readings ?w_keeps_guarded_readings ?k_keeps_guarded_readings ?a_keeps_guarded_writings ?l_keeps_guarded_writings ?w_keeps_guarded_writings ?k_keeps_guarded_writings ?a_is_below ?l_is_below ?w_is_below ?k_is_below ?a_alike ?l_alike ?w_alike ?k_alike ?a_all_designs ?l_all_designs ?w_all_designs ?k_all_designs ?a_below ?l_below ?w_below ?k_below ?a_is_held_by_normal ?l_is_held_by_normal ?w_is_held_by_normal ?k_is_held_by_normal ?a_normal_of ?l_normal_of ?w_normal_of ?k_normal_of ?a_normal ?l_normal ?w_normal ?k_normal ?a_normals ?l_normals ?w_normals ?k_normals ?a_law ?l_law ?w_law ?k_law ?z_any ?z_bool ?z_int ?z_isinstance ?z_len ?z_list ?z_range ?z_set ?z_sorted ?z_str ?z_tuple ?a_WORDS ?r_WORDS ?a_KEEPING ?r_KEEPING
    (case a__law_alike => k_is)
    (case l__law_alike => k_is)
    (case w__law_alike => k_is)
    (case k__law_alike => k_is)
    (case a__law_taken => k_is)
    (case l__law_taken => k_is)
    (case w__law_taken => k_is)
    (case k__law_taken => k_is)
    (case a__law_design => k_is)
    (case l__law_design => k_is)
    (case w__law_design => k_is)
    (case k__law_design => k_is)
    (case a__law_pick => k_is)
    (case l__law_pick => k_is)
    (case w__law_pick => k_is)
    (case k__law_pick => k_is)
    (case a__law_near => k_is)
    (case l__law_near => k_is)
    (case w__law_near => k_is)
    (case k__law_near => k_is)
    (case a__law_normal => k_is)
    (case l__law_normal => k_is)
    (case w__law_normal => k_is)
    (case k__law_normal => k_is)
    (case a_is_design => k_is)
    (case l_is_design => k_is)
    (case w_is_design => k_is)
    (case k_is_design => k_is)
    (case a_check_design => k_is)
    (case l_check_design => k_is)
    (case w_check_design => k_is)
    (case k_check_design => k_is)
    (case a_hides_own => k_is)
    (case l_hides_own => k_is)
    (case w_hides_own => k_is)
    (case k_hides_own => k_is)
    (case a_keeps_guarded_readings => k_is)
    (case l_keeps_guarded_readings => k_is)
    (case w_keeps_guarded_readings => k_is)
    (case k_keeps_guarded_readings => k_is)
    (case a_keeps_guarded_writings => k_is)
    (case l_keeps_guarded_writings => k_is)
    (case w_keeps_guarded_writings => k_is)
    (case k_keeps_guarded_writings => k_is)
    (case a_is_below => k_is)
    (case l_is_below => k_is)
    (case w_is_below => k_is)
    (case k_is_below => k_is)
    (case a_alike => k_is)
    (case l_alike => k_is)
    (case w_alike => k_is)
    (case k_alike => k_is)
    (case a_all_designs => k_is)
    (case l_all_designs => k_is)
    (case w_all_designs => k_is)
    (case k_all_designs => k_is)
    (case a_below => k_is)
    (case l_below => k_is)
    (case w_below => k_is)
    (case k_below => k_is)
    (case a_is_held_by_normal => k_is)
    (case l_is_held_by_normal => k_is)
    (case w_is_held_by_normal => k_is)
    (case k_is_held_by_normal => k_is)
    (case a_normal_of => k_is)
    (case l_normal_of => k_is)
    (case w_normal_of => k_is)
    (case k_normal_of => k_is)
    (case a_normal => k_is)
    (case l_normal => k_is)
    (case w_normal => k_is)
    (case k_normal => k_is)
    (case a_normals => k_is)
    (case l_normals => k_is)
    (case w_normals => k_is)
    (case k_normals => k_is)
    (case a_law => k_is)
    (case l_law => k_is)
    (case w_law => k_is)
    (case k_law => k_is)
    (case z_any => k_is)
    (case z_bool => k_is)
    (case z_int => k_is)
    (case z_isinstance => k_is)
    (case z_len => k_is)
    (case z_list => k_is)
    (case z_range => k_is)
    (case z_set => k_is)
    (case z_sorted => k_is)
    (case z_str => k_is)
    (case z_tuple => k_is)
    (case a_WORDS => k_is)
    (case r_WORDS => exact (DL.rep_ktup (xs := [.str "gr", .str "gw", .str "own", .str "rr", .str "rw", .str "ss", .str "wr", .str "ww"]) (by k_is) (.cons ⟨_, rfl⟩ (.cons ⟨_, rfl⟩ (.cons ⟨_, rfl⟩ (.cons ⟨_, rfl⟩ (.cons ⟨_, rfl⟩ (.cons ⟨_, rfl⟩ (.cons ⟨_, rfl⟩ (.cons ⟨_, rfl⟩ (.nil))))))))) (fun _ _ _ _ => (.cons (.str _) (.cons (.str _) (.cons (.str _) (.cons (.str _) (.cons (.str _) (.cons (.str _) (.cons (.str _) (.cons (.str _) .nil))))))))) (by decide)))
    (case a_KEEPING => k_is)
    (case r_KEEPING => exact (DL.rep_ktup (xs := [.str "rr", .str "rw", .str "wr", .str "ww", .str "ss"]) (by k_is) (.cons ⟨_, rfl⟩ (.cons ⟨_, rfl⟩ (.cons ⟨_, rfl⟩ (.cons ⟨_, rfl⟩ (.cons ⟨_, rfl⟩ .nil))))) (fun Z β H hZ => (.cons (.str _) (.cons (.str _) (.cons (.str _) (.cons (.str _) (.cons (.str _) .nil)))))) (by decide)))
